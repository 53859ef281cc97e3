/-
  What the proofs of the seat's rows share: a law that answers true and writes nothing old meets its row's end; the opening of lists of pieces and of spans. No statement of the seat is proved here.
-/
import Derived.Test.YtcgjhbjbfdbfaaaFd
import Derived.ProofKit
import Derived.OpenShut
import Derived.Lib.SmallJoins
import Derived.Deep.Slices
import Derived.Stop.Joined
namespace Go.Proofs.Ytcgjhbjbfdbfaaa
open Go.ChangeShapes Go.WideShapes Go.ChangeAt Go.RowKit Go.Joins

theorem own : ownKnob Try.prog.godebug = none := by kernel_rfl
theorem laidOut : laidOutB Try.prog = true := by kernel_rfl

theorem trodAll_below {H : Type} {enc : TypeId × Value → H} {P : Program} (hl : laidOutB P = true) {W W' : World} (hb : Below W.heap.size W W') :
    ∀ (ts : List TypeId) (vs : List Value) (ds : List (DataW H)) (p : List MemPlace), (ts.all fun t => P.readableRec t && decide (t < P.types.size)) = true →
      DataW.TrodAll enc P W 0 (fun _ => true) true ts vs ds p → (∀ x ∈ p, x.block < W.heap.size) →
      DataW.TrodAll enc P W' 0 (fun b => decide (b < W.heap.size)) true ts vs ds p := by
  intro ts
  induction ts with
  | nil =>
    intro vs ds p _ h _
    obtain ⟨rfl, rfl, rfl⟩ := trodAll_nil h
    exact trodAll_mk0
  | cons t ts ih =>
    intro vs ds p hr h hlt
    obtain ⟨v, vs', d, ds', p1, q1, rfl, rfl, rfl, h1, h2⟩ := trodAll_cons h
    simp only [List.all_cons, Bool.and_eq_true, decide_eq_true_eq] at hr
    exact trodAll_cons_mk (Below.trod hl hr.1.1 hr.1.2 h1 hb (fun x hx => hlt x (List.mem_append_left _ hx))) (ih _ _ _ hr.2 h2 (fun x hx => hlt x (List.mem_append_right _ hx)))

/-- THE END OF EVERY LAW's ROW: it answered true, and nothing that was there has turned. -/
theorem post_true {H : Type} {enc : TypeId × Value → H} {fn : Func} {s : ChangeSpec} {W W' : World} {args : Array Value} {ds : List (DataW H)} {before : List MemPlace}
    (hres : fn.resultTypes = #[4]) (hvars : s.vars = []) (hok : (fn.params.toList.all fun t => Try.prog.readableRec t && decide (t < Try.prog.types.size)) = true)
    (hW : DataW.Whole enc Try.prog fn.params.toList s.vars false W args.toList ds [] before)
    (hfn : s.fn H (ds ++ []) = { results := [.lit (.bool true)], args := ds }) (hb : Below W.heap.size W W') :
    s.post enc Try.prog fn false true false false W args (.bool true) W' := by
  have hlt : ∀ x ∈ before, x.block < W.heap.size := fun x hx => by simpa using hW.lt x hx
  have hW' := hW
  obtain ⟨p, q, hA, hV, rfl, hfz, hnd⟩ := hW
  refine ⟨ds, [], p ++ q, [], p, [], hW', ?_, ?_, ?_, hb.frame _, fun h => by cases h⟩
  · rw [hfn, hres]
    exact trodAll_mk1 (shut_bool Try.underlying4 true)
  · rw [hfn]
    exact trodAll_below laidOut hb _ _ _ _ hok hA (fun x hx => hlt x (List.mem_append_left _ hx))
  · rw [hfn, hvars]
    rfl

theorem spot_none {w : World} {a : Addr} {v : Value} (h : w.cell? (a.add 0) = some v) : a.spot = none := by
  obtain ⟨b, off, spot⟩ := a
  simpa [Addr.add] using World.cell?_spot h
theorem add_at {a : Addr} (h : a.spot = none) (i : Nat) : a.add i = ⟨a.block, a.off + i, none⟩ := by
  obtain ⟨b, off, spot⟩ := a
  subst h
  exact add_plain ..

theorem cells3 : Try.prog.cellsOf 3 = 1 := by kernel_rfl
theorem cells33 : Try.prog.cellsOf 33 = 2 := by kernel_rfl
theorem cells47 : Try.prog.cellsOf 47 = 3 := by kernel_rfl

set_option maxRecDepth 100000 in
/-- A span that came in, by value. -/
theorem open_span {H : Type} {enc : TypeId × Value → H} {W : World} {base : Nat} {v : Value} {d : DataW H} {p : List MemPlace} (hv : Value.okWide Try.prog W .any base 33 v) (h : DataW.Trod enc Try.prog W 0 (fun _ => true) true 33 v d p) :
    ∃ a b : Int, v = .agg #[.int .i64 a, .int .i64 b] := by
  obtain ⟨v0, v1, y0, y1, n, rfl, _, _, h0, h1⟩ := open_agg2 Try.underlying33 (by kernel_rfl) cells33 hv h
  obtain ⟨x0, e0, rfl, _⟩ := DataW.trod_int Try.underlying3 h0
  obtain ⟨x1, e1, rfl, _⟩ := DataW.trod_int Try.underlying3 h1
  exact ⟨x0, x1, by simp at e0 e1; rw [e0, e1]⟩

set_option maxRecDepth 100000 in
/-- A piece that lies in three cells. -/
theorem open_piece {H : Type} {enc : TypeId × Value → H} {W : World} {fuel : Nat} {c0 c1 c2 : Value} {x : DataW H × List MemPlace} (h : DataW.trod enc Try.prog W 0 (fun _ => true) true fuel 47 [c0, c1, c2] = some x) :
    ∃ f u v : Int, c0 = .int .i64 f ∧ c1 = .int .i64 u ∧ c2 = .int .i64 v := by
  obtain ⟨ys, n, hn, hy, hlen, hyl, hf⟩ := DataW.trod_struct Try.underlying47 h
  have hy2 : ys.length = 2 := hyl
  obtain ⟨z0, z1, rfl⟩ : ∃ z0 z1, ys = [z0, z1] := by
    match ys, hy2 with
    | [z0, z1], _ => exact ⟨z0, z1, rfl⟩
  have f0 : DataW.trod enc Try.prog W 0 (fun _ => true) true n 33 ([c0, c1, c2].take (Try.prog.cellsOf 33)) = some z0 := hf 0 _ rfl
  have f1 : DataW.trod enc Try.prog W 0 (fun _ => true) true n 3 (([c0, c1, c2].drop 2).take (Try.prog.cellsOf 3)) = some z1 := hf 1 _ rfl
  rw [cells33] at f0
  rw [cells3] at f1
  have g0 : DataW.trod enc Try.prog W 0 (fun _ => true) true n 33 [c0, c1] = some z0 := f0
  have g1 : DataW.trod enc Try.prog W 0 (fun _ => true) true n 3 [c2] = some z1 := f1
  obtain ⟨ys', n', hn', hy', hlen', hyl', hf'⟩ := DataW.trod_struct Try.underlying33 g0
  have hy2' : ys'.length = 2 := hyl'
  obtain ⟨w0, w1, rfl⟩ : ∃ z0 z1, ys' = [z0, z1] := by
    match ys', hy2' with
    | [z0, z1], _ => exact ⟨z0, z1, rfl⟩
  have k0 : DataW.trod enc Try.prog W 0 (fun _ => true) true n' 3 ([c0, c1].take (Try.prog.cellsOf 3)) = some w0 := hf' 0 _ rfl
  have k1 : DataW.trod enc Try.prog W 0 (fun _ => true) true n' 3 (([c0, c1].drop 1).take (Try.prog.cellsOf 3)) = some w1 := hf' 1 _ rfl
  rw [cells3] at k0 k1
  have l0 : DataW.trod enc Try.prog W 0 (fun _ => true) true n' 3 [c0] = some w0 := k0
  have l1 : DataW.trod enc Try.prog W 0 (fun _ => true) true n' 3 [c1] = some w1 := k1
  obtain ⟨x0, e0, _, _⟩ := DataW.trod_int Try.underlying3 l0
  obtain ⟨x1, e1, _, _⟩ := DataW.trod_int Try.underlying3 l1
  obtain ⟨x2, e2, _, _⟩ := DataW.trod_int Try.underlying3 g1
  simp at e0 e1 e2
  exact ⟨x0, x1, x2, e0, e1, e2⟩

set_option maxRecDepth 100000 in
/-- A list of pieces that came in. -/
theorem open_pcs {H : Type} {enc : TypeId × Value → H} {W : World} {base : Nat} {v : Value} {d : DataW H} {p : List MemPlace} (hv : Value.okWide Try.prog W .any base 22 v) (h : DataW.Trod enc Try.prog W 0 (fun _ => true) true 22 v d p) :
    ∃ (a : Option Addr) (n cap : Nat) (F U V : Nat → Int), v = .slice a n cap ∧ PcsAt W a n F U V := by
  obtain ⟨a0, len, cap, rfl⟩ := okWide_slice Try.underlying22 hv
  obtain ⟨fuel, hf⟩ := h
  rcases Go.Deep.open_slice Try.underlying22 hf with ⟨h0, _⟩ | ⟨a, ln, cp, m, k, D, Pl, hcs, _, hl, _, hmm, _, hx⟩
  · simp [Value.cells] at h0
    obtain ⟨rfl, rfl, rfl⟩ := h0
    exact ⟨none, 0, 0, fun _ => 0, fun _ => 0, fun _ => 0, rfl, Or.inl rfl⟩
  simp [Value.cells] at hcs
  obtain ⟨rfl, rfl, rfl⟩ := hcs
  simp only [if_true] at hmm
  have each : ∀ i, i < len → ∃ f u v : Int, W.cell? (a.add (i * 3)) = some (.int .i64 f) ∧ W.cell? (a.add (i * 3 + 1)) = some (.int .i64 u) ∧ W.cell? (a.add (i * 3 + 2)) = some (.int .i64 v) := by
    intro i hi
    obtain ⟨cs', hc, ht'⟩ := hx i (by omega)
    rw [cells47] at hc
    obtain ⟨_, hcl, hat⟩ := World.cells?_some hc
    match cs', hcl with
    | [c0, c1, c2], _ =>
      obtain ⟨f, u, v, rfl, rfl, rfl⟩ := open_piece ht'
      have h0 := hat 0 (by omega)
      have h1 := hat 1 (by omega)
      have h2 := hat 2 (by omega)
      rw [Go.Deep.add_add] at h0 h1 h2
      exact ⟨f, u, v, by simpa using h0, by simpa using h1, by simpa using h2⟩
  refine ⟨some a, len, cap, fun i => if h : i < len then (each i h).choose else 0, fun i => if h : i < len then (each i h).choose_spec.choose else 0, fun i => if h : i < len then (each i h).choose_spec.choose_spec.choose else 0, rfl, ?_⟩
  by_cases hn : len = 0
  · exact Or.inl hn
  obtain ⟨f0, u0, v0, k0, _, _⟩ := each 0 (by omega)
  have hs : a.spot = none := spot_none (by simpa using k0)
  refine Or.inr ⟨a.block, a.off, ?_, fun i hi => ?_⟩
  · have := add_at hs 0
    simpa [Addr.add] using congrArg some this
  · have q := (each i hi).choose_spec.choose_spec.choose_spec
    simp only [dif_pos hi]
    exact ⟨(congrArg W.cell? (add_at hs _)).symm.trans q.1, (congrArg W.cell? (add_at hs _)).symm.trans q.2.1, (congrArg W.cell? (add_at hs _)).symm.trans q.2.2⟩

set_option maxRecDepth 100000 in
/-- The frame of a law's row: the law's own walk is handed in. -/
theorem looks_frame (law : ∀ (p : Option Addr) (n cap : Nat) (F U V : Nat → Int) (d fr v : Int) (w : World), PcsAt w p n F U V → Calls Try.prog 3 #[.slice p n cap, .int .i64 d, .int .i64 fr, .int .i64 v] w fun e w' => e = .returned (.bool true) ∧ Below w.heap.size w w') (os : Os) (started : os.Started) (H : Type) (enc : TypeId × Value → H) :
    ReturnsInHanded {} Try.checked os 3 .any (Rows.timelineLooksSpec.pre6 enc Try.prog Try.f3 [] false) (Rows.timelineLooksSpec.post enc Try.prog Try.f3 false true false false) := by
  refine returnsInHanded_of_change (C := Try.checked) own started (by kernel_rfl) Try.func3
    (ChangeSpec.witness6 (enc := enc) (C := Try.checked) false ⟨#[], #[.slice none 0 0, .int .i64 0, .int .i64 0, .int .i64 0], []⟩ 8 (by kernel_rfl) (by kernel_rfl) (by kernel_rfl) (by kernel_rfl)) ?_
  intro W base args ds gs before hval0 hW _ _
  have hval : ∀ (j : Nat) t v, Try.f3.params[j]? = some t → args[j]? = some v → Value.okWide Try.prog W .any base t v := hval0
  have hW' := hW
  obtain ⟨p, q, hA0, hV, rfl, hfz, hnd⟩ := hW
  have hA : DataW.TrodAll enc Try.prog W 0 (fun _ => true) true Try.f3.params.toList args.toList ds p := hA0
  rw [Try.params3] at hA hval
  obtain ⟨v0, v1, v2, v3, d0, d1, d2, d3, p0, p1, p2, p3, rfl, rfl, rfl, h0, h1, h2, h3⟩ := trodAll_four hA
  obtain ⟨rfl, rfl⟩ := trodVars_none hV
  obtain ⟨A0, n0, c0, F0, U0, V0, rfl, HG0⟩ := open_pcs (hval 0 22 v0 rfl rfl) h0
  obtain ⟨x1, rfl, rfl, rfl, wx1⟩ := open_int Try.underlying3 (hval 1 3 v1 rfl rfl) h1
  obtain ⟨x2, rfl, rfl, rfl, wx2⟩ := open_int Try.underlying3 (hval 2 3 v2 rfl rfl) h2
  obtain ⟨x3, rfl, rfl, rfl, wx3⟩ := open_int Try.underlying3 (hval 3 3 v3 rfl rfl) h3
  refine (law A0 n0 c0 F0 U0 V0 x1 x2 x3 W HG0).mono fun e W' ⟨he, hb⟩ => ?_
  subst he
  exact ⟨_, rfl, post_true rfl rfl (by kernel_rfl) hW' rfl hb⟩

theorem looks_of (law : ∀ (p : Option Addr) (n cap : Nat) (F U V : Nat → Int) (d fr v : Int) (w : World), PcsAt w p n F U V → Calls Try.prog 3 #[.slice p n cap, .int .i64 d, .int .i64 fr, .int .i64 v] w fun e w' => e = .returned (.bool true) ∧ Below w.heap.size w w') : Rows.TimelineLooksSaid :=
  OpenClaim.holds_of_wide 3 Try.f3 rfl rfl rfl rfl rfl rfl rfl ⟨rfl, rfl, rfl, rfl, rfl⟩ rfl rfl rfl rfl rfl (by kernel_rfl) Try.func3 (by kernel_rfl)
    (of_decide_eq_true (by kernel_rfl)) (by unfold Func.isWrapper; first | (rw [if_pos (by decide +kernel)]; kernel_rfl) | (rw [if_neg (by decide +kernel)]; exact ⟨rfl, rfl⟩))
    (fun os started H enc _ => looks_frame law os started H enc)
end Go.Proofs.Ytcgjhbjbfdbfaaa
