/-
  What the proofs of the seat's rows share: a law that answers true and writes nothing old meets its row's end; what the listed variables hold; the opening of strings and lists. No statement of the seat is proved here.
-/
import Derived.Test.YtbjbioiggjhknaaGreatDoorAf
import Derived.Test.YtbjbioiggjhknaaGreatDoorTie
import Derived.Test.YtbjbioiggjhknaaGreatDoorCards
import Derived.ProofKit
import Derived.LaidMore
import Derived.OpenShut
import Derived.Lib.SmallJoins
import Derived.Deep.Slices
import Derived.Stop.Joined
import Derived.Stop.LaidErr
import Derived.Lib.LaidTab
import Derived.Lay
import Derived.SevenTiedAt
namespace Go.Proofs.YtbjbioiggjhknaaGreatDoor
open Go.ChangeShapes Go.WideShapes Go.ChangeAt Go.RowKit Go.Joins

theorem own : ownKnob Tryz.prog.godebug = none := by kernel_rfl
theorem laidOut : laidOutB Tryz.prog = true := by kernel_rfl

theorem trodAll_below {H : Type} {enc : TypeId × Value → H} {P : Program} (hl : laidOutB P = true) {W W' : World} (hb : Below W.heap.size W W') :
    ∀ (ts : List TypeId) (vs : List Value) (ds : List (DataW H)) (p : List MemPlace), (ts.all fun t => P.readableRec t && decide (t < P.types.size)) = true →
      DataW.TrodAll enc P W 0 (fun _ => true) true ts vs ds p → (∀ x ∈ p, x.block < W.heap.size) →
      DataW.TrodAll enc P W' 0 (fun b => decide (b < W.heap.size)) true ts vs ds p := by
  intro ts
  induction ts with
  | nil =>
    intro vs ds p _ h _
    obtain ⟨rfl, rfl, rfl⟩ := trodAll_nil h
    exact trodAll_mk0
  | cons t ts ih =>
    intro vs ds p hr h hlt
    obtain ⟨v, vs', d, ds', p1, q1, rfl, rfl, rfl, h1, h2⟩ := trodAll_cons h
    simp only [List.all_cons, Bool.and_eq_true, decide_eq_true_eq] at hr
    exact trodAll_cons_mk (Below.trod hl hr.1.1 hr.1.2 h1 hb (fun x hx => hlt x (List.mem_append_left _ hx))) (ih _ _ _ hr.2 h2 (fun x hx => hlt x (List.mem_append_right _ hx)))

/-- THE END OF EVERY LAW's ROW: it answered true, and nothing that was there has turned. -/
theorem post_true {H : Type} {enc : TypeId × Value → H} {fn : Func} {s : ChangeSpec} {W W' : World} {args : Array Value} {ds : List (DataW H)} {before : List MemPlace}
    (hres : fn.resultTypes = #[4]) (hvars : s.vars = []) (hok : (fn.params.toList.all fun t => Tryz.prog.readableRec t && decide (t < Tryz.prog.types.size)) = true)
    (hW : DataW.Whole enc Tryz.prog fn.params.toList s.vars false W args.toList ds [] before)
    (hfn : s.fn H (ds ++ []) = { results := [.lit (.bool true)], args := ds }) (hb : Below W.heap.size W W') :
    s.post enc Tryz.prog fn false true false false W args (.bool true) W' := by
  have hlt : ∀ x ∈ before, x.block < W.heap.size := fun x hx => by simpa using hW.lt x hx
  have hW' := hW
  obtain ⟨p, q, hA, hV, rfl, hfz, hnd⟩ := hW
  refine ⟨ds, [], p ++ q, [], p, [], hW', ?_, ?_, ?_, hb.frame _, fun h => by cases h⟩
  · rw [hfn, hres]
    exact trodAll_mk1 (shut_bool Tryz.underlying4 true)
  · rw [hfn]
    exact trodAll_below laidOut hb _ _ _ _ hok hA (fun x hx => hlt x (List.mem_append_left _ hx))
  · rw [hfn, hvars]
    rfl

theorem spot_none {w : World} {a : Addr} {v : Value} (h : w.cell? (a.add 0) = some v) : a.spot = none := by
  obtain ⟨b, off, spot⟩ := a
  simpa [Addr.add] using World.cell?_spot h
theorem add_at {a : Addr} (h : a.spot = none) (i : Nat) : a.add i = ⟨a.block, a.off + i, none⟩ := by
  obtain ⟨b, off, spot⟩ := a
  subst h
  exact add_plain ..


theorem cells3 : Tryz.prog.cellsOf 3 = 1 := by kernel_rfl
theorem cells9 : Tryz.prog.cellsOf 9 = 1 := by kernel_rfl
theorem cells144 : Tryz.prog.cellsOf 141 = 1 := by kernel_rfl
theorem cells165 : Tryz.prog.cellsOf 162 = 20 := by kernel_rfl
theorem cells163 : Tryz.prog.cellsOf 160 = 1 := by kernel_rfl


theorem cells48 : Tryz.prog.cellsOf 39 = 8 := by kernel_rfl
theorem cells52 : Tryz.prog.cellsOf 68 = 2 := by kernel_rfl
theorem cells62 : Tryz.prog.cellsOf 74 = 4 := by kernel_rfl
theorem cells46 : Tryz.prog.cellsOf 37 = 1 := by kernel_rfl

set_option maxRecDepth 100000 in
/-- A note that lies in four cells. -/
theorem open_note {H : Type} {enc : TypeId × Value → H} {W : World} {fuel : Nat} {c0 c1 c2 c3 : Value} {x : DataW H × List MemPlace} (h : DataW.trod enc Tryz.prog W 0 (fun _ => true) true fuel 74 [c0, c1, c2, c3] = some x) :
    ∃ y : Nt, c0 = .string y.s ∧ c1 = .int .i64 y.a ∧ c2 = .int .i64 y.b ∧ c3 = .int .i64 y.r := by
  obtain ⟨ys, n, hn, hy, hlen, hyl, hf⟩ := DataW.trod_struct Tryz.underlying74 h
  have hy3 : ys.length = 3 := hyl
  obtain ⟨z0, z1, z2, rfl⟩ : ∃ z0 z1 z2, ys = [z0, z1, z2] := by
    match ys, hy3 with
    | [z0, z1, z2], _ => exact ⟨z0, z1, z2, rfl⟩
  have f0 : DataW.trod enc Tryz.prog W 0 (fun _ => true) true n 9 ([c0, c1, c2, c3].take (Tryz.prog.cellsOf 9)) = some z0 := hf 0 _ rfl
  have f1 : DataW.trod enc Tryz.prog W 0 (fun _ => true) true n 68 (([c0, c1, c2, c3].drop 1).take (Tryz.prog.cellsOf 68)) = some z1 := hf 1 _ rfl
  have f2 : DataW.trod enc Tryz.prog W 0 (fun _ => true) true n 3 (([c0, c1, c2, c3].drop 3).take (Tryz.prog.cellsOf 3)) = some z2 := hf 2 _ rfl
  rw [cells9] at f0
  rw [cells52] at f1
  rw [cells3] at f2
  have g0 : DataW.trod enc Tryz.prog W 0 (fun _ => true) true n 9 [c0] = some z0 := f0
  have g1 : DataW.trod enc Tryz.prog W 0 (fun _ => true) true n 68 [c1, c2] = some z1 := f1
  have g2 : DataW.trod enc Tryz.prog W 0 (fun _ => true) true n 3 [c3] = some z2 := f2
  obtain ⟨ys', n', hn', hy', hlen', hyl', hf'⟩ := DataW.trod_struct Tryz.underlying68 g1
  have hy2' : ys'.length = 2 := hyl'
  obtain ⟨w0, w1, rfl⟩ : ∃ z0 z1, ys' = [z0, z1] := by
    match ys', hy2' with
    | [z0, z1], _ => exact ⟨z0, z1, rfl⟩
  have k0 : DataW.trod enc Tryz.prog W 0 (fun _ => true) true n' 3 ([c1, c2].take (Tryz.prog.cellsOf 3)) = some w0 := hf' 0 _ rfl
  have k1 : DataW.trod enc Tryz.prog W 0 (fun _ => true) true n' 3 (([c1, c2].drop 1).take (Tryz.prog.cellsOf 3)) = some w1 := hf' 1 _ rfl
  rw [cells3] at k0 k1
  have l0 : DataW.trod enc Tryz.prog W 0 (fun _ => true) true n' 3 [c1] = some w0 := k0
  have l1 : DataW.trod enc Tryz.prog W 0 (fun _ => true) true n' 3 [c2] = some w1 := k1
  obtain ⟨s, e0, _, _⟩ := DataW.trod_string Tryz.underlying9 g0
  obtain ⟨a, e1, _, _⟩ := DataW.trod_int Tryz.underlying3 l0
  obtain ⟨b, e2, _, _⟩ := DataW.trod_int Tryz.underlying3 l1
  obtain ⟨r, e3, _, _⟩ := DataW.trod_int Tryz.underlying3 g2
  simp at e0 e1 e2 e3
  exact ⟨⟨s, a, b, r⟩, e0, e1, e2, e3⟩

set_option maxRecDepth 100000 in
/-- Notes that lie in memory. -/
theorem open_notes {H : Type} {enc : TypeId × Value → H} {W : World} {fuel : Nat} {c : Value} {x : DataW H × List MemPlace} (h : DataW.trod enc Tryz.prog W 0 (fun _ => true) true fuel 37 [c] = some x) :
    ∃ (p : Option Addr) (cap : Nat) (l : List Nt), c = .slice p l.length cap ∧ NtsAt W p l := by
  rcases Go.Deep.open_slice Tryz.underlying37 h with ⟨h0, _⟩ | ⟨a, len, cap, m, k, D, Pl, hcs, _, hl, _, hmm, _, hx⟩
  · simp at h0
    exact ⟨none, 0, [], h0, .inl rfl⟩
  simp at hcs
  subst hcs
  simp only [if_true] at hmm
  have each : ∀ i, i < len → ∃ y : Nt, W.cell? (a.add (i * 4)) = some (.string y.s) ∧ W.cell? (a.add (i * 4 + 1)) = some (.int .i64 y.a) ∧ W.cell? (a.add (i * 4 + 2)) = some (.int .i64 y.b) ∧ W.cell? (a.add (i * 4 + 3)) = some (.int .i64 y.r) := by
    intro i hi
    obtain ⟨cs', hc, ht'⟩ := hx i (by omega)
    rw [cells62] at hc
    obtain ⟨_, hcl, hat⟩ := World.cells?_some hc
    match cs', hcl with
    | [c0, c1, c2, c3], _ =>
      obtain ⟨y, rfl, rfl, rfl, rfl⟩ := open_note ht'
      have h0 := hat 0 (by omega)
      have h1 := hat 1 (by omega)
      have h2 := hat 2 (by omega)
      have h3 := hat 3 (by omega)
      rw [Go.Deep.add_add] at h0 h1 h2 h3
      exact ⟨y, by simpa using h0, by simpa using h1, by simpa using h2, by simpa using h3⟩
  refine ⟨some a, cap, (List.range len).map (fun i => if h : i < len then (each i h).choose else ⟨⟨#[]⟩, 0, 0, 0⟩), by simp, ?_⟩
  by_cases hn : len = 0
  · left; simp [hn]
  obtain ⟨y0, k0, _⟩ := each 0 (by omega)
  have hs : a.spot = none := spot_none (by simpa using k0)
  refine .inr ⟨a.block, a.off, ?_, fun i y hi => ?_⟩
  · have := add_at hs 0
    simpa [Addr.add] using congrArg some this
  · have hlt : i < len := by simpa using (List.getElem?_eq_some_iff.1 hi).1
    have q := (each i hlt).choose_spec
    have e : (each i hlt).choose = y := by
      rw [List.getElem?_map, List.getElem?_range hlt] at hi
      simpa [hlt] using hi
    rw [e] at q
    exact ⟨(congrArg W.cell? (add_at hs _)).symm.trans q.1, (congrArg W.cell? (add_at hs _)).symm.trans q.2.1, (congrArg W.cell? (add_at hs _)).symm.trans q.2.2.1, (congrArg W.cell? (add_at hs _)).symm.trans q.2.2.2⟩

set_option maxRecDepth 100000 in
/-- A file that came in, by value. -/
theorem open_fil {H : Type} {enc : TypeId × Value → H} {W : World} {base : Nat} {v : Value} {d : DataW H} {p : List MemPlace} (hv : Value.okWide Tryz.prog W .any base 39 v) (h : DataW.Trod enc Tryz.prog W 0 (fun _ => true) true 39 v d p) :
    ∃ x : Fil, v = x.val ∧ NtsAt W x.np x.ns := by
  obtain ⟨cs, rfl, hsz⟩ := okWide_struct Tryz.underlying39 hv
  obtain ⟨fuel, hf⟩ := h
  have hl : cs.toList.length = 8 := by rw [Array.length_toList, hsz, cells48]
  obtain ⟨c0, c1, c2, c3, c4, c5, c6, c7, hcs⟩ : ∃ c0 c1 c2 c3 c4 c5 c6 c7, cs.toList = [c0, c1, c2, c3, c4, c5, c6, c7] := by
    match cs.toList, hl with
    | [c0, c1, c2, c3, c4, c5, c6, c7], _ => exact ⟨c0, c1, c2, c3, c4, c5, c6, c7, rfl⟩
  obtain rfl : cs = #[c0, c1, c2, c3, c4, c5, c6, c7] := by rw [← hcs]
  obtain ⟨ys, n, hn, hy, hlen, hyl, hg⟩ := DataW.trod_struct Tryz.underlying39 hf
  have hy8 : ys.length = 8 := hyl
  obtain ⟨z0, z1, z2, z3, z4, z5, z6, z7, rfl⟩ : ∃ z0 z1 z2 z3 z4 z5 z6 z7, ys = [z0, z1, z2, z3, z4, z5, z6, z7] := by
    match ys, hy8 with
    | [z0, z1, z2, z3, z4, z5, z6, z7], _ => exact ⟨z0, z1, z2, z3, z4, z5, z6, z7, rfl⟩
  have f0 : DataW.trod enc Tryz.prog W 0 (fun _ => true) true n 3 ([c0, c1, c2, c3, c4, c5, c6, c7].take (Tryz.prog.cellsOf 3)) = some z0 := hg 0 _ rfl
  have f1 : DataW.trod enc Tryz.prog W 0 (fun _ => true) true n 3 (([c0, c1, c2, c3, c4, c5, c6, c7].drop 1).take (Tryz.prog.cellsOf 3)) = some z1 := hg 1 _ rfl
  have f2 : DataW.trod enc Tryz.prog W 0 (fun _ => true) true n 3 (([c0, c1, c2, c3, c4, c5, c6, c7].drop 2).take (Tryz.prog.cellsOf 3)) = some z2 := hg 2 _ rfl
  have f3 : DataW.trod enc Tryz.prog W 0 (fun _ => true) true n 3 (([c0, c1, c2, c3, c4, c5, c6, c7].drop 3).take (Tryz.prog.cellsOf 3)) = some z3 := hg 3 _ rfl
  have f4 : DataW.trod enc Tryz.prog W 0 (fun _ => true) true n 9 (([c0, c1, c2, c3, c4, c5, c6, c7].drop 4).take (Tryz.prog.cellsOf 9)) = some z4 := hg 4 _ rfl
  have f5 : DataW.trod enc Tryz.prog W 0 (fun _ => true) true n 9 (([c0, c1, c2, c3, c4, c5, c6, c7].drop 5).take (Tryz.prog.cellsOf 9)) = some z5 := hg 5 _ rfl
  have f6 : DataW.trod enc Tryz.prog W 0 (fun _ => true) true n 3 (([c0, c1, c2, c3, c4, c5, c6, c7].drop 6).take (Tryz.prog.cellsOf 3)) = some z6 := hg 6 _ rfl
  have f7 : DataW.trod enc Tryz.prog W 0 (fun _ => true) true n 37 (([c0, c1, c2, c3, c4, c5, c6, c7].drop 7).take (Tryz.prog.cellsOf 37)) = some z7 := hg 7 _ rfl
  rw [cells3] at f0 f1 f2 f3 f6
  rw [cells9] at f4 f5
  rw [cells46] at f7
  obtain ⟨x0, e0, _, _⟩ := DataW.trod_int Tryz.underlying3 (show DataW.trod enc Tryz.prog W 0 (fun _ => true) true n 3 [c0] = some z0 from f0)
  obtain ⟨x1, e1, _, _⟩ := DataW.trod_int Tryz.underlying3 (show DataW.trod enc Tryz.prog W 0 (fun _ => true) true n 3 [c1] = some z1 from f1)
  obtain ⟨x2, e2, _, _⟩ := DataW.trod_int Tryz.underlying3 (show DataW.trod enc Tryz.prog W 0 (fun _ => true) true n 3 [c2] = some z2 from f2)
  obtain ⟨x3, e3, _, _⟩ := DataW.trod_int Tryz.underlying3 (show DataW.trod enc Tryz.prog W 0 (fun _ => true) true n 3 [c3] = some z3 from f3)
  obtain ⟨x4, e4, _, _⟩ := DataW.trod_string Tryz.underlying9 (show DataW.trod enc Tryz.prog W 0 (fun _ => true) true n 9 [c4] = some z4 from f4)
  obtain ⟨x5, e5, _, _⟩ := DataW.trod_string Tryz.underlying9 (show DataW.trod enc Tryz.prog W 0 (fun _ => true) true n 9 [c5] = some z5 from f5)
  obtain ⟨x6, e6, _, _⟩ := DataW.trod_int Tryz.underlying3 (show DataW.trod enc Tryz.prog W 0 (fun _ => true) true n 3 [c6] = some z6 from f6)
  obtain ⟨q, cap, l, e7, hN⟩ := open_notes (show DataW.trod enc Tryz.prog W 0 (fun _ => true) true n 37 [c7] = some z7 from f7)
  simp at e0 e1 e2 e3 e4 e5 e6
  subst e0; subst e1; subst e2; subst e3; subst e4; subst e5; subst e6; subst e7
  exact ⟨⟨x0, x1, x2, x3, x4, x5, x6, q, cap, l⟩, rfl, hN⟩

/-- What the rows list. -/
abbrev laid7 : List (String × DataW Unit) := [("math/bits.deBruijn32tab", Rows.laid_math_bits_deBruijn32tab), ("math/bits.deBruijn64tab", Rows.laid_math_bits_deBruijn64tab), ("internal/strconv.uint64pow10", Rows.laid_internal_strconv_uint64pow10), ("unicode/utf8.acceptRanges", Rows.laid_unicode_utf8_acceptRanges), ("strconv.ErrRange", Rows.laid_strconv_ErrRange), ("strconv.ErrSyntax", Rows.laid_strconv_ErrSyntax), ("unicode/utf8.first", Rows.laid_unicode_utf8_first)]

theorem gPow : Tryz.prog.globalNamed "internal/strconv.uint64pow10" = some 5 := by kernel_rfl
theorem tPow : (Tryz.prog.globals[5]?).map (·.type) = some 162 := by kernel_rfl
theorem gRng : Tryz.prog.globalNamed "strconv.ErrRange" = some 4 := by kernel_rfl
theorem tRng : (Tryz.prog.globals[4]?).map (·.type) = some 118 := by kernel_rfl
theorem gSyn : Tryz.prog.globalNamed "strconv.ErrSyntax" = some 3 := by kernel_rfl
theorem tSyn : (Tryz.prog.globals[3]?).map (·.type) = some 118 := by kernel_rfl
theorem star : ("*errors.errorString" : String) = "*" ++ "errors.errorString" := by decide +kernel
theorem row126 (u : TypeId) (h : Tryz.prog.typeName? 3 u = some "*errors.errorString") : u = 158 :=
  typeName_ptr_named (nm := "errors.errorString") (by rw [← star]; kernel_rfl) (by kernel_rfl) (by decide) u (by rw [← star]; exact h)
theorem pow_eq : (Rows.laid_internal_strconv_uint64pow10 : DataW Unit) = Lib.tabData .u64 Lib.pow10Tab := by kernel_rfl

set_option maxRecDepth 100000 in
theorem env_of_laid {W : World} (h : laidMetH Tryz.prog laid7 W) (hs : W.ShapedOpen Tryz.prog) : Env W := by
  rw [MakeChecks.laidMetH_plain _ _ _ (by kernel_rfl)] at h
  have h3 := h.tail.tail
  have h5 := h3.tail.tail
  have h6 := h5.tail
  obtain ⟨a0, s0, v0, _⟩ := laid_sentinel h5 gRng tRng Tryz.underlying118 row126 Tryz.underlying158 Tryz.underlying160 rfl rfl Tryz.underlying9 cells163 cells9
  obtain ⟨a1, s1, v1, _⟩ := laid_sentinel h6 gSyn tSyn Tryz.underlying118 row126 Tryz.underlying158 Tryz.underlying160 rfl rfl Tryz.underlying9 cells163 cells9
  refine ⟨⟨_, _, v1⟩, ⟨_, _, v0⟩, ?_, hs⟩
  rw [pow_eq] at h3
  exact Lib.tabIs_of_head gPow tPow Tryz.underlying162 Tryz.underlying141 cells144 cells165 h3

section
variable {H : Type} {enc : TypeId × Value → H}
set_option maxRecDepth 100000 in
/-- The wrap: the listed variables and the world's shape are handed on. -/
theorem wrap {os : Os} {f : FuncId} {fn : Func} {s : ChangeSpec} (started : os.Started) (noInit : Tryz.checked.prog.inits.idxOf? f = none) (hfn : Tryz.checked.prog.funcs[f]? = some fn)
    (witness : ∃ (w : World) (tape : Tape) (i : Input), w.os = os ∧ (w.forCall tape i).Shaped Tryz.checked.prog ∧ i.vars = [] ∧ Input.okWide Tryz.checked.prog (w.forCall tape i) .any w.heap.size f i ∧
      ((s.pre enc Tryz.checked.prog fn [] false (w.forCall tape i).memory i.args ∧ laidMetH Tryz.prog laid7 (w.forCall tape i).memory) ∧ sizedMet enc Tryz.checked.prog fn (OpenSpec.ofChange s) false (w.forCall tape i).memory i.args) ∧ ({} : Assume).holds Tryz.checked.prog (lone (Frame.enter Tryz.checked.prog f i.args .normal) [] (w.forCall tape i)))
    (contract : ∀ (W : World) (base : Nat) (args : Array Value) (ds gs : List (DataW H)) (before : List MemPlace),
      (∀ (j : Nat) t v, fn.params[j]? = some t → args[j]? = some v → Value.okWide Tryz.prog W .any base t v) →
      DataW.Whole enc Tryz.prog fn.params.toList s.vars false W args.toList ds gs before → Env W →
      Calls Tryz.prog f args W fun e W' => ∃ v, e = .returned v ∧ s.post enc Tryz.prog fn false true false false W args v W') :
    ReturnsInHanded {} Tryz.checked os f .any (fun w args => (s.pre enc Tryz.checked.prog fn [] false w args ∧ laidMetH Tryz.prog laid7 w) ∧ sizedMet enc Tryz.checked.prog fn (OpenSpec.ofChange s) false w args) (s.post enc Tryz.checked.prog fn false true false false) := by
  refine returnsInHanded_of_calls own started noInit witness ?_
  intro w tape i _ hsh _ hok hpre _
  obtain ⟨_, _, _, fn', hfn', _, _, _, _, hval⟩ := hok
  obtain rfl : fn' = fn := Option.some.inj (hfn'.symm.trans hfn)
  obtain ⟨⟨⟨ds, gs, before, hw, _⟩, hx⟩, _⟩ := hpre
  have hl : laidMetH Tryz.prog laid7 (w.forCall tape i) := hx.of_heap (by rfl)
  refine (contract (w.forCall tape i) w.heap.size i.args ds gs before hval (DataW.Whole.of_heap (w' := w.forCall tape i) (by rfl) hw) (env_of_laid hl hsh)).mono fun e W' ⟨v, he, hp⟩ => ?_
  subst he
  exact ChangeSpec.post_blind hp
end

set_option maxRecDepth 100000 in
theorem laid_met (os : Os) (args : Array Value) : laidMetH Tryz.prog laid7 ((World.laidAll Tryz.prog os laid7).forCall (fun _ _ => 0) ⟨#[], args, []⟩).memory := by
  rw [MakeChecks.laidMetH_plain _ _ _ (by kernel_rfl)]
  exact laidMet_laidAll _ (by kernel_rfl) (by kernel_rfl)

end Go.Proofs.YtbjbioiggjhknaaGreatDoor
