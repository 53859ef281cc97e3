/-
  What the proofs of the seat's rows share: a law that answers true and writes nothing old meets its row's end; the opening of offices and of numbers that came in. No statement of the seat is proved here.
-/
import Derived.Test.YtchaihdbljkphaaAw
import Derived.ProofKit
import Derived.OpenShut
import Derived.Lib.SmallJoins
import Derived.Deep.Slices
import Derived.Stop.Joined
import Derived.HandedShaped
namespace Go.Proofs.Ytchaihdbljkphaa
open Go.ChangeShapes Go.WideShapes Go.ChangeAt Go.RowKit Go.Joins

theorem own : ownKnob Try.prog.godebug = none := by kernel_rfl
theorem laidOut : laidOutB Try.prog = true := by kernel_rfl

theorem trodAll_below {H : Type} {enc : TypeId × Value → H} {P : Program} (hl : laidOutB P = true) {W W' : World} (hb : Below W.heap.size W W') :
    ∀ (ts : List TypeId) (vs : List Value) (ds : List (DataW H)) (p : List MemPlace), (ts.all fun t => P.readableRec t && decide (t < P.types.size)) = true →
      DataW.TrodAll enc P W 0 (fun _ => true) true ts vs ds p → (∀ x ∈ p, x.block < W.heap.size) →
      DataW.TrodAll enc P W' 0 (fun b => decide (b < W.heap.size)) true ts vs ds p := by
  intro ts
  induction ts with
  | nil =>
    intro vs ds p _ h _
    obtain ⟨rfl, rfl, rfl⟩ := trodAll_nil h
    exact trodAll_mk0
  | cons t ts ih =>
    intro vs ds p hr h hlt
    obtain ⟨v, vs', d, ds', p1, q1, rfl, rfl, rfl, h1, h2⟩ := trodAll_cons h
    simp only [List.all_cons, Bool.and_eq_true, decide_eq_true_eq] at hr
    exact trodAll_cons_mk (Below.trod hl hr.1.1 hr.1.2 h1 hb (fun x hx => hlt x (List.mem_append_left _ hx))) (ih _ _ _ hr.2 h2 (fun x hx => hlt x (List.mem_append_right _ hx)))

/-- THE END OF EVERY LAW's ROW: it answered true, and nothing that was there has turned. -/
theorem post_true {H : Type} {enc : TypeId × Value → H} {fn : Func} {s : ChangeSpec} {W W' : World} {args : Array Value} {ds : List (DataW H)} {before : List MemPlace}
    (hres : fn.resultTypes = #[4]) (hvars : s.vars = []) (hok : (fn.params.toList.all fun t => Try.prog.readableRec t && decide (t < Try.prog.types.size)) = true)
    (hW : DataW.Whole enc Try.prog fn.params.toList s.vars false W args.toList ds [] before)
    (hfn : s.fn H (ds ++ []) = { results := [.lit (.bool true)], args := ds }) (hb : Below W.heap.size W W') :
    s.post enc Try.prog fn false true false false W args (.bool true) W' := by
  have hlt : ∀ x ∈ before, x.block < W.heap.size := fun x hx => by simpa using hW.lt x hx
  have hW' := hW
  obtain ⟨p, q, hA, hV, rfl, hfz, hnd⟩ := hW
  refine ⟨ds, [], p ++ q, [], p, [], hW', ?_, ?_, ?_, hb.frame _, fun h => by cases h⟩
  · rw [hfn, hres]
    exact trodAll_mk1 (shut_bool Try.underlying4 true)
  · rw [hfn]
    exact trodAll_below laidOut hb _ _ _ _ hok hA (fun x hx => hlt x (List.mem_append_left _ hx))
  · rw [hfn, hvars]
    rfl

theorem spot_none {w : World} {a : Addr} {v : Value} (h : w.cell? (a.add 0) = some v) : a.spot = none := by
  obtain ⟨b, off, spot⟩ := a
  simpa [Addr.add] using World.cell?_spot h
theorem add_at {a : Addr} (h : a.spot = none) (i : Nat) : a.add i = ⟨a.block, a.off + i, none⟩ := by
  obtain ⟨b, off, spot⟩ := a
  subst h
  exact add_plain ..


theorem cells3 : Try.prog.cellsOf 3 = 1 := by kernel_rfl
theorem cells9 : Try.prog.cellsOf 9 = 1 := by kernel_rfl
theorem cells28 : Try.prog.cellsOf 28 = 1 := by kernel_rfl
theorem cells41 : Try.prog.cellsOf 41 = 2 := by kernel_rfl
theorem cells43 : Try.prog.cellsOf 43 = 5 := by kernel_rfl
theorem i64_wf {n : Int} (h : (Lit.int .i64 n).wf = true) : I64 n := by
  have h2 : (decide (IntKind.i64.min ≤ n) && decide (n ≤ IntKind.i64.max)) = true := h
  rw [Bool.and_eq_true, decide_eq_true_iff, decide_eq_true_iff] at h2
  exact h2
theorem reach_le : reachBytes ≤ 140737488355328 := by unfold reachBytes; decide
theorem mem_all {H : Type} {P : Program} {e : TypeId} {d : DataW H} {n : Nat} : ∀ {L : List (DataW H)}, d ∈ L → n ∈ d.weights P e → n ∈ DataW.weightsAll P e L
  | [], h, _ => by cases h
  | a :: L, h, hn => by
    unfold DataW.weightsAll
    rcases List.mem_cons.1 h with rfl | h
    · exact List.mem_append_left _ hn
    · exact List.mem_append_right _ (mem_all h hn)

set_option maxRecDepth 100000 in
/-- Numbers that lie in memory. -/
theorem s_ints {H : Type} {enc : TypeId × Value → H} {W : World} {fuel : Nat} {c : Value} {x : DataW H × List MemPlace} (h : DataW.trod enc Try.prog W 0 (fun _ => true) true fuel 28 [c] = some x) (hw : ∀ n ∈ x.1.weights Try.prog 28, n ≤ reachBytes) :
    ∃ (p : Option Addr) (cap : Nat) (l : List Int), c = .slice p l.length cap ∧ IntsAt W p l ∧ l.length ≤ cap ∧ (∀ y ∈ l, I64 y) ∧ l.length * 8 ≤ 140737488355328 := by
  rcases Go.Deep.open_slice Try.underlying28 h with ⟨h0, _⟩ | ⟨a, len, cap, m, k, D, Pl, hcs, _, hl, _, hmm, hxe, hx⟩
  · simp at h0
    exact ⟨none, 0, [], h0, .inl rfl, Nat.le_refl _, (fun _ h => by cases h), by simp⟩
  simp at hcs
  subst hcs
  simp only [if_true] at hmm
  rw [hxe] at hw
  unfold DataW.weights at hw
  rw [Try.underlying28] at hw
  have hw2 : ∀ n ∈ (((List.range len).map D).length + ((List.range (m - len)).map fun j => D (len + j)).length) * Try.prog.bytesOf 3 :: (DataW.weightsAll Try.prog 3 ((List.range len).map D) ++ DataW.weightsAll Try.prog 3 ((List.range (m - len)).map fun j => D (len + j))), n ≤ reachBytes := hw
  have hbytes : Try.prog.bytesOf 3 = 8 := by kernel_rfl
  have hlen := hw2 _ (List.mem_cons_self ..)
  rw [hbytes, List.length_map, List.length_range] at hlen
  have r := reach_le
  have hlen2 : len * 8 ≤ 140737488355328 := by
    have : len * 8 ≤ (len + ((List.range (m - len)).map fun j => D (len + j)).length) * 8 := Nat.mul_le_mul_right _ (Nat.le_add_right _ _)
    omega
  have each : ∀ i, i < len → ∃ y : Int, W.cell? (a.add (i * 1)) = some (.int .i64 y) ∧ I64 y := by
    intro i hi
    obtain ⟨cs', hc, ht'⟩ := hx i (by omega)
    rw [cells3] at hc
    obtain ⟨_, hcl, hat⟩ := World.cells?_some hc
    match cs', hcl with
    | [c0], _ =>
      obtain ⟨y, e0, _, wf⟩ := DataW.trod_int Try.underlying3 ht'
      simp at e0
      subst e0
      have h0 := hat 0 (by omega)
      rw [Go.Deep.add_add] at h0
      exact ⟨y, by simpa using h0, i64_wf wf⟩
  refine ⟨some a, cap, (List.range len).map (fun i => if h : i < len then (each i h).choose else 0), by simp, ?_, by simp; omega, fun y hy => ?_, by simpa using hlen2⟩
  rotate_left
  · obtain ⟨i, hi, rfl⟩ := List.mem_map.1 hy
    have hi2 : i < len := List.mem_range.1 hi
    rw [dif_pos hi2]
    exact (each i hi2).choose_spec.2
  by_cases hn : len = 0
  · left; simp [hn]
  obtain ⟨y0, k0, _⟩ := each 0 (by omega)
  have hs : a.spot = none := spot_none (by simpa using k0)
  refine .inr ⟨a.block, a.off, ?_, fun i y hi => ?_⟩
  · have := add_at hs 0
    simpa [Addr.add] using congrArg some this
  · have hlt : i < len := by simpa using (List.getElem?_eq_some_iff.1 hi).1
    have q := (each i hlt).choose_spec
    have e : (each i hlt).choose = y := by
      rw [List.getElem?_map, List.getElem?_range hlt] at hi
      simpa [hlt] using hi
    rw [e] at q
    have q1 := q.1
    rw [Nat.mul_one] at q1
    exact (congrArg W.cell? (add_at hs _)).symm.trans q1

set_option maxRecDepth 100000 in
/-- An office that lies in five cells. -/
theorem s_off {H : Type} {enc : TypeId × Value → H} {W : World} {fuel : Nat} {c0 c1 c2 c3 c4 : Value} {x : DataW H × List MemPlace} (h : DataW.trod enc Try.prog W 0 (fun _ => true) true fuel 43 [c0, c1, c2, c3, c4] = some x) (hw : ∀ n ∈ x.1.weights Try.prog 43, n ≤ reachBytes) :
    ∃ y : Off, c0 = .int .i64 y.id ∧ c1 = .string y.nm ∧ c2 = .int .i64 y.fr ∧ c3 = .int .i64 y.un ∧ c4 = .slice y.np y.nx.length y.nc ∧ IntsAt W y.np y.nx ∧ FitO y := by
  obtain ⟨ys, n, hn, hy, hlen, hyl, hf⟩ := DataW.trod_struct Try.underlying43 h
  have hy4 : ys.length = 4 := hyl
  obtain ⟨z0, z1, z2, z3, rfl⟩ : ∃ z0 z1 z2 z3, ys = [z0, z1, z2, z3] := by
    match ys, hy4 with
    | [z0, z1, z2, z3], _ => exact ⟨z0, z1, z2, z3, rfl⟩
  have f0 : DataW.trod enc Try.prog W 0 (fun _ => true) true n 3 ([c0, c1, c2, c3, c4].take (Try.prog.cellsOf 3)) = some z0 := hf 0 _ rfl
  have f1 : DataW.trod enc Try.prog W 0 (fun _ => true) true n 9 (([c0, c1, c2, c3, c4].drop 1).take (Try.prog.cellsOf 9)) = some z1 := hf 1 _ rfl
  have f2 : DataW.trod enc Try.prog W 0 (fun _ => true) true n 41 (([c0, c1, c2, c3, c4].drop 2).take (Try.prog.cellsOf 41)) = some z2 := hf 2 _ rfl
  have f3 : DataW.trod enc Try.prog W 0 (fun _ => true) true n 28 (([c0, c1, c2, c3, c4].drop 4).take (Try.prog.cellsOf 28)) = some z3 := hf 3 _ rfl
  rw [cells3] at f0
  rw [cells9] at f1
  rw [cells41] at f2
  rw [cells28] at f3
  have g0 : DataW.trod enc Try.prog W 0 (fun _ => true) true n 3 [c0] = some z0 := f0
  have g1 : DataW.trod enc Try.prog W 0 (fun _ => true) true n 9 [c1] = some z1 := f1
  have g2 : DataW.trod enc Try.prog W 0 (fun _ => true) true n 41 [c2, c3] = some z2 := f2
  have g3 : DataW.trod enc Try.prog W 0 (fun _ => true) true n 28 [c4] = some z3 := f3
  obtain ⟨ys', n', hn', hy', hlen', hyl', hf'⟩ := DataW.trod_struct Try.underlying41 g2
  have hy2' : ys'.length = 2 := hyl'
  obtain ⟨w0, w1, rfl⟩ : ∃ z0 z1, ys' = [z0, z1] := by
    match ys', hy2' with
    | [z0, z1], _ => exact ⟨z0, z1, rfl⟩
  have k0 : DataW.trod enc Try.prog W 0 (fun _ => true) true n' 3 ([c2, c3].take (Try.prog.cellsOf 3)) = some w0 := hf' 0 _ rfl
  have k1 : DataW.trod enc Try.prog W 0 (fun _ => true) true n' 3 (([c2, c3].drop 1).take (Try.prog.cellsOf 3)) = some w1 := hf' 1 _ rfl
  rw [cells3] at k0 k1
  have l0 : DataW.trod enc Try.prog W 0 (fun _ => true) true n' 3 [c2] = some w0 := k0
  have l1 : DataW.trod enc Try.prog W 0 (fun _ => true) true n' 3 [c3] = some w1 := k1
  obtain ⟨v, e0, _, u0⟩ := DataW.trod_int Try.underlying3 g0
  obtain ⟨s, e1, q1, _⟩ := DataW.trod_string Try.underlying9 g1
  obtain ⟨f, e2, _, u2⟩ := DataW.trod_int Try.underlying3 l0
  obtain ⟨u, e3, _, u3⟩ := DataW.trod_int Try.underlying3 l1
  rw [hy] at hw
  unfold DataW.weights at hw
  rw [Try.underlying43] at hw
  have hw2 : ∀ n ∈ DataW.weightsEach Try.prog [3, 9, 41, 28] [z0.1, z1.1, z2.1, z3.1], n ≤ reachBytes := hw
  obtain ⟨p, cc, l, e4, hI, _, hl, hn8⟩ := s_ints g3 (fun k hk => hw2 k (List.mem_append_right _ (List.mem_append_right _ (List.mem_append_right _ (List.mem_append_left _ hk)))))
  rw [q1] at hw2
  have m1 := hw2 s.data.toList.length (List.mem_append_right _ (List.mem_append_left _ (List.mem_singleton.2 rfl)))
  have r := reach_le
  have l1 : s.data.toList.length = s.size := Array.length_toList
  simp at e0 e1 e2 e3
  refine ⟨⟨v, s, f, u, p, cc, l⟩, e0, e1, e2, e3, e4, hI, ⟨i64_wf u0, i64_wf u2, i64_wf u3, hl, ?_, ?_⟩⟩
  · show l.length ≤ _
    omega
  · show s.size ≤ _
    omega

set_option maxRecDepth 100000 in
/-- Offices that came in. -/
theorem s_offs {H : Type} {enc : TypeId × Value → H} {W : World} {base : Nat} {v : Value} {d : DataW H} {p : List MemPlace} (hv : Value.okWide Try.prog W .any base 22 v) (h : DataW.Trod enc Try.prog W 0 (fun _ => true) true 22 v d p) (hw : ∀ n ∈ d.weights Try.prog 22, n ≤ reachBytes) :
    ∃ (a : Option Addr) (cap : Nat) (l : List Off), v = .slice a l.length cap ∧ OffsAt W a l ∧ (∀ x ∈ l, FitO x) ∧ l.length * 56 ≤ 140737488355328 ∧ l.length ≤ cap := by
  obtain ⟨a0, len, cap, rfl⟩ := okWide_slice Try.underlying22 hv
  obtain ⟨fuel, hf⟩ := h
  rcases Go.Deep.open_slice Try.underlying22 hf with ⟨h0, _⟩ | ⟨a, ln, cp, m, k, D, Pl, hcs, _, hl, _, hmm, hxe, hx⟩
  · simp [Value.cells] at h0
    obtain ⟨rfl, rfl, rfl⟩ := h0
    exact ⟨none, 0, [], rfl, .inl rfl, (fun _ h => by cases h), by simp, Nat.le_refl _⟩
  simp [Value.cells] at hcs
  obtain ⟨rfl, rfl, rfl⟩ := hcs
  simp only [if_true] at hmm
  obtain ⟨rfl, _⟩ := Prod.mk.inj hxe
  unfold DataW.weights at hw
  rw [Try.underlying22] at hw
  have hw2 : ∀ n ∈ (((List.range len).map D).length + ((List.range (m - len)).map fun j => D (len + j)).length) * Try.prog.bytesOf 43 :: (DataW.weightsAll Try.prog 43 ((List.range len).map D) ++ DataW.weightsAll Try.prog 43 ((List.range (m - len)).map fun j => D (len + j))), n ≤ reachBytes := hw
  have hbytes : Try.prog.bytesOf 43 = 64 := by kernel_rfl
  have hlen := hw2 _ (List.mem_cons_self ..)
  rw [List.length_map, List.length_range] at hlen
  have r := reach_le
  have hlen2 : len * 56 ≤ 140737488355328 := by
    have h1 : len * 56 ≤ (len + ((List.range (m - len)).map fun j => D (len + j)).length) * Try.prog.bytesOf 43 := by rw [hbytes]; exact Nat.mul_le_mul (Nat.le_add_right _ _) (by omega)
    omega
  have hel : ∀ i, i < len → ∀ n ∈ (D i).weights Try.prog 43, n ≤ reachBytes := fun i hi n hn =>
    hw2 n (List.mem_cons_of_mem _ (List.mem_append_left _ (mem_all (List.mem_map.2 ⟨i, List.mem_range.2 hi, rfl⟩) hn)))
  have each : ∀ i, i < len → ∃ y : Off, (W.cell? (a.add (i * 5)) = some (.int .i64 y.id) ∧ W.cell? (a.add (i * 5 + 1)) = some (.string y.nm) ∧ W.cell? (a.add (i * 5 + 2)) = some (.int .i64 y.fr) ∧ W.cell? (a.add (i * 5 + 3)) = some (.int .i64 y.un) ∧ W.cell? (a.add (i * 5 + 4)) = some (.slice y.np y.nx.length y.nc)) ∧ IntsAt W y.np y.nx ∧ FitO y := by
    intro i hi
    obtain ⟨cs', hc, ht'⟩ := hx i (by omega)
    rw [cells43] at hc
    obtain ⟨_, hcl, hat⟩ := World.cells?_some hc
    match cs', hcl with
    | [c0, c1, c2, c3, c4], _ =>
      obtain ⟨y, rfl, rfl, rfl, rfl, rfl, hy⟩ := s_off ht' (hel i hi)
      have h0 := hat 0 (by omega)
      have h1 := hat 1 (by omega)
      have h2 := hat 2 (by omega)
      have h3 := hat 3 (by omega)
      have h4 := hat 4 (by omega)
      rw [Go.Deep.add_add] at h0 h1 h2 h3 h4
      exact ⟨y, ⟨by simpa using h0, by simpa using h1, by simpa using h2, by simpa using h3, by simpa using h4⟩, hy⟩
  refine ⟨some a, cap, (List.range len).map (fun i => if h : i < len then (each i h).choose else ⟨0, ⟨#[]⟩, 0, 0, none, 0, []⟩), by simp, ?_, fun y hy => ?_, by simpa using hlen2, by simp; omega⟩
  rotate_left
  · obtain ⟨i, hi, rfl⟩ := List.mem_map.1 hy
    have hi2 : i < len := List.mem_range.1 hi
    rw [dif_pos hi2]
    exact (each i hi2).choose_spec.2.2
  by_cases hn : len = 0
  · left; simp [hn]
  obtain ⟨y0, ⟨k0, _⟩, _⟩ := each 0 (by omega)
  have hs : a.spot = none := spot_none (by simpa using k0)
  refine .inr ⟨a.block, a.off, ?_, fun i y hi => ?_⟩
  · have := add_at hs 0
    simpa [Addr.add] using congrArg some this
  · have hlt : i < len := by simpa using (List.getElem?_eq_some_iff.1 hi).1
    have q := (each i hlt).choose_spec
    have e : (each i hlt).choose = y := by
      rw [List.getElem?_map, List.getElem?_range hlt] at hi
      simpa [hlt] using hi
    rw [e] at q
    exact ⟨⟨(congrArg W.cell? (add_at hs _)).symm.trans q.1.1, (congrArg W.cell? (add_at hs _)).symm.trans q.1.2.1, (congrArg W.cell? (add_at hs _)).symm.trans q.1.2.2.1, (congrArg W.cell? (add_at hs _)).symm.trans q.1.2.2.2.1, (congrArg W.cell? (add_at hs _)).symm.trans q.1.2.2.2.2⟩, q.2.1⟩
set_option maxRecDepth 100000 in
/-- Numbers that came in. -/
theorem s_nums {H : Type} {enc : TypeId × Value → H} {W : World} {base : Nat} {v : Value} {d : DataW H} {p : List MemPlace} (hv : Value.okWide Try.prog W .any base 28 v) (h : DataW.Trod enc Try.prog W 0 (fun _ => true) true 28 v d p) (hw : ∀ n ∈ d.weights Try.prog 28, n ≤ reachBytes) :
    ∃ (a : Option Addr) (cap : Nat) (l : List Int), v = .slice a l.length cap ∧ IntsAt W a l ∧ (∀ x ∈ l, I64 x) ∧ l.length * 8 ≤ 140737488355328 := by
  obtain ⟨a0, len, cap, rfl⟩ := okWide_slice Try.underlying28 hv
  obtain ⟨fuel, hf⟩ := h
  have hf2 : DataW.trod enc Try.prog W 0 (fun _ => true) true fuel 28 [.slice a0 len cap] = some (d, p) := hf
  obtain ⟨q, cc, l, e, hI, _, hl, h8⟩ := s_ints hf2 hw
  exact ⟨q, cc, l, e, hI, hl, h8⟩
theorem weights_at {P : Program} {H : Type} {ts : List TypeId} {ds : List (DataW H)} (h : (DataW.weightsEach P ts ds).all (· ≤ reachBytes) = true) {j : Nat} {t : TypeId} {d : DataW H} (ht : ts[j]? = some t) (hd : ds[j]? = some d) : ∀ n ∈ d.weights P t, n ≤ reachBytes := fun n hn => by
  have := List.all_eq_true.1 h n (DataW.weights_mem_each ht hd n hn)
  simpa using this

end Go.Proofs.Ytchaihdbljkphaa
