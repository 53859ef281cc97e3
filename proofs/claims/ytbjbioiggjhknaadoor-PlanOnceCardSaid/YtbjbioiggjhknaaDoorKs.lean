/-
  Plans that came in are no larger than the form's reach. No statement of the seat is proved here.
-/
import Derived.Test.YtbjbioiggjhknaaDoorKp
namespace Go.Proofs.YtbjbioiggjhknaaDoor
open Go.ChangeShapes Go.WideShapes Go.ChangeAt Go.RowKit Go.Joins

theorem reach_le : reachBytes ≤ 140737488355328 := by unfold reachBytes; decide
theorem mem_all {H : Type} {P : Program} {e : TypeId} {d : DataW H} {n : Nat} : ∀ {L : List (DataW H)}, d ∈ L → n ∈ d.weights P e → n ∈ DataW.weightsAll P e L
  | [], h, _ => by cases h
  | a :: L, h, hn => by
    unfold DataW.weightsAll
    rcases List.mem_cons.1 h with rfl | h
    · exact List.mem_append_left _ hn
    · exact List.mem_append_right _ (mem_all h hn)

set_option maxRecDepth 100000 in
theorem s_pairC {H : Type} {enc : TypeId × Value → H} {W : World} {fuel : Nat} {c0 c1 : Value} {x : DataW H × List MemPlace} (h : DataW.trod enc Tryd.prog W 0 (fun _ => true) true fuel 36 [c0, c1] = some x) (hw : ∀ n ∈ x.1.weights Tryd.prog 36, n ≤ reachBytes) :
    ∃ y : Pr, c0 = .string y.c ∧ c1 = .string y.t ∧ y.c.size ≤ 140737488355328 ∧ y.t.size ≤ 140737488355328 := by
  obtain ⟨ys, n, hn, hy, hlen, hyl, hf⟩ := DataW.trod_struct Tryd.underlying36 h
  have hy2 : ys.length = 2 := hyl
  obtain ⟨z0, z1, rfl⟩ : ∃ z0 z1, ys = [z0, z1] := by
    match ys, hy2 with
    | [z0, z1], _ => exact ⟨z0, z1, rfl⟩
  have f0 : DataW.trod enc Tryd.prog W 0 (fun _ => true) true n 9 ([c0, c1].take (Tryd.prog.cellsOf 9)) = some z0 := hf 0 _ rfl
  have f1 : DataW.trod enc Tryd.prog W 0 (fun _ => true) true n 9 (([c0, c1].drop 1).take (Tryd.prog.cellsOf 9)) = some z1 := hf 1 _ rfl
  rw [cells9] at f0 f1
  have g0 : DataW.trod enc Tryd.prog W 0 (fun _ => true) true n 9 [c0] = some z0 := f0
  have g1 : DataW.trod enc Tryd.prog W 0 (fun _ => true) true n 9 [c1] = some z1 := f1
  obtain ⟨s, e0, q0, k0⟩ := DataW.trod_string Tryd.underlying9 g0
  obtain ⟨t, e1, q1, k1⟩ := DataW.trod_string Tryd.underlying9 g1
  simp at e0 e1
  rw [hy] at hw
  unfold DataW.weights at hw
  rw [Tryd.underlying36] at hw
  have hw2 : ∀ n ∈ DataW.weightsEach Tryd.prog [9, 9] [z0.1, z1.1], n ≤ reachBytes := hw
  rw [q0, q1] at hw2
  have m0 := hw2 s.data.toList.length (List.mem_append_left _ (List.mem_singleton.2 rfl))
  have m1 := hw2 t.data.toList.length (List.mem_append_right _ (List.mem_append_left _ (List.mem_singleton.2 rfl)))
  have r := reach_le
  have l0 : s.data.toList.length = s.size := Array.length_toList
  have l1 : t.data.toList.length = t.size := Array.length_toList
  exact ⟨⟨s, t⟩, e0, e1, by show s.size ≤ _; omega, by show t.size ≤ _; omega⟩

set_option maxRecDepth 100000 in
theorem s_pairsC {H : Type} {enc : TypeId × Value → H} {W : World} {fuel : Nat} {c : Value} {x : DataW H × List MemPlace} (h : DataW.trod enc Tryd.prog W 0 (fun _ => true) true fuel 31 [c] = some x) (hw : ∀ n ∈ x.1.weights Tryd.prog 31, n ≤ reachBytes) :
    ∃ (p : Option Addr) (cap : Nat) (l : List Pr), c = .slice p l.length cap ∧ PrsAt W p l ∧ l.length ≤ cap ∧ (∀ y ∈ l, y.c.size ≤ 140737488355328 ∧ y.t.size ≤ 140737488355328) ∧ l.length * 32 ≤ 140737488355328 := by
  rcases Go.Deep.open_slice Tryd.underlying31 h with ⟨h0, _⟩ | ⟨a, len, cap, m, k, D, Pl, hcs, _, hl, _, hmm, hxe, hx⟩
  · simp at h0
    exact ⟨none, 0, [], h0, .inl rfl, Nat.le_refl _, (fun _ h => by cases h), by simp⟩
  simp at hcs
  subst hcs
  simp only [if_true] at hmm
  rw [hxe] at hw
  unfold DataW.weights at hw
  rw [Tryd.underlying31] at hw
  have hw2 : ∀ n ∈ (((List.range len).map D).length + ((List.range (m - len)).map fun j => D (len + j)).length) * Tryd.prog.bytesOf 36 :: (DataW.weightsAll Tryd.prog 36 ((List.range len).map D) ++ DataW.weightsAll Tryd.prog 36 ((List.range (m - len)).map fun j => D (len + j))), n ≤ reachBytes := hw
  have hbytes : Tryd.prog.bytesOf 36 = 32 := by kernel_rfl
  have hlen := hw2 _ (List.mem_cons_self ..)
  rw [hbytes, List.length_map, List.length_range] at hlen
  have r := reach_le
  have hlen2 : len * 32 ≤ 140737488355328 := by
    have : len * 32 ≤ (len + ((List.range (m - len)).map fun j => D (len + j)).length) * 32 := Nat.mul_le_mul_right _ (Nat.le_add_right _ _)
    omega
  have hel : ∀ i, i < len → ∀ n ∈ (D i).weights Tryd.prog 36, n ≤ reachBytes := fun i hi n hn =>
    hw2 n (List.mem_cons_of_mem _ (List.mem_append_left _ (mem_all (List.mem_map.2 ⟨i, List.mem_range.2 hi, rfl⟩) hn)))
  have each : ∀ i, i < len → ∃ y : Pr, W.cell? (a.add (i * 2)) = some (.string y.c) ∧ W.cell? (a.add (i * 2 + 1)) = some (.string y.t) ∧ y.c.size ≤ 140737488355328 ∧ y.t.size ≤ 140737488355328 := by
    intro i hi
    obtain ⟨cs', hc, ht'⟩ := hx i (by omega)
    rw [cells44] at hc
    obtain ⟨_, hcl, hat⟩ := World.cells?_some hc
    match cs', hcl with
    | [c0, c1], _ =>
      obtain ⟨y, rfl, rfl, s0, s1⟩ := s_pairC ht' (hel i hi)
      have h0 := hat 0 (by omega)
      have h1 := hat 1 (by omega)
      rw [Go.Deep.add_add] at h0 h1
      exact ⟨y, by simpa using h0, by simpa using h1, s0, s1⟩
  refine ⟨some a, cap, (List.range len).map (fun i => if h : i < len then (each i h).choose else ⟨⟨#[]⟩, ⟨#[]⟩⟩), by simp, ?_, by simp; omega, fun y hy => ?_, by simpa using hlen2⟩
  rotate_left
  · obtain ⟨i, hi, rfl⟩ := List.mem_map.1 hy
    have hi2 : i < len := List.mem_range.1 hi
    rw [dif_pos hi2]
    exact (each i hi2).choose_spec.2.2
  by_cases hn : len = 0
  · left; simp [hn]
  obtain ⟨y0, k0, _⟩ := each 0 (by omega)
  have hs : a.spot = none := spot_none (by simpa using k0)
  refine .inr ⟨a.block, a.off, ?_, fun i y hi => ?_⟩
  · have := add_at hs 0
    simpa [Addr.add] using congrArg some this
  · have hlt : i < len := by simpa using (List.getElem?_eq_some_iff.1 hi).1
    have q := (each i hlt).choose_spec
    have e : (each i hlt).choose = y := by
      rw [List.getElem?_map, List.getElem?_range hlt] at hi
      simpa [hlt] using hi
    rw [e] at q
    exact ⟨(congrArg W.cell? (add_at hs _)).symm.trans q.1, (congrArg W.cell? (add_at hs _)).symm.trans q.2.1⟩

set_option maxRecDepth 100000 in
theorem s_pairM {H : Type} {enc : TypeId × Value → H} {W : World} {fuel : Nat} {c0 c1 : Value} {x : DataW H × List MemPlace} (h : DataW.trod enc Tryd.prog W 0 (fun _ => true) true fuel 56 [c0, c1] = some x) (hw : ∀ n ∈ x.1.weights Tryd.prog 56, n ≤ reachBytes) :
    ∃ y : Pr, c0 = .string y.c ∧ c1 = .string y.t ∧ y.c.size ≤ 140737488355328 ∧ y.t.size ≤ 140737488355328 := by
  obtain ⟨ys, n, hn, hy, hlen, hyl, hf⟩ := DataW.trod_struct Tryd.underlying56 h
  have hy2 : ys.length = 2 := hyl
  obtain ⟨z0, z1, rfl⟩ : ∃ z0 z1, ys = [z0, z1] := by
    match ys, hy2 with
    | [z0, z1], _ => exact ⟨z0, z1, rfl⟩
  have f0 : DataW.trod enc Tryd.prog W 0 (fun _ => true) true n 9 ([c0, c1].take (Tryd.prog.cellsOf 9)) = some z0 := hf 0 _ rfl
  have f1 : DataW.trod enc Tryd.prog W 0 (fun _ => true) true n 9 (([c0, c1].drop 1).take (Tryd.prog.cellsOf 9)) = some z1 := hf 1 _ rfl
  rw [cells9] at f0 f1
  have g0 : DataW.trod enc Tryd.prog W 0 (fun _ => true) true n 9 [c0] = some z0 := f0
  have g1 : DataW.trod enc Tryd.prog W 0 (fun _ => true) true n 9 [c1] = some z1 := f1
  obtain ⟨s, e0, q0, k0⟩ := DataW.trod_string Tryd.underlying9 g0
  obtain ⟨t, e1, q1, k1⟩ := DataW.trod_string Tryd.underlying9 g1
  simp at e0 e1
  rw [hy] at hw
  unfold DataW.weights at hw
  rw [Tryd.underlying56] at hw
  have hw2 : ∀ n ∈ DataW.weightsEach Tryd.prog [9, 9] [z0.1, z1.1], n ≤ reachBytes := hw
  rw [q0, q1] at hw2
  have m0 := hw2 s.data.toList.length (List.mem_append_left _ (List.mem_singleton.2 rfl))
  have m1 := hw2 t.data.toList.length (List.mem_append_right _ (List.mem_append_left _ (List.mem_singleton.2 rfl)))
  have r := reach_le
  have l0 : s.data.toList.length = s.size := Array.length_toList
  have l1 : t.data.toList.length = t.size := Array.length_toList
  exact ⟨⟨s, t⟩, e0, e1, by show s.size ≤ _; omega, by show t.size ≤ _; omega⟩

set_option maxRecDepth 100000 in
theorem s_pairsM {H : Type} {enc : TypeId × Value → H} {W : World} {fuel : Nat} {c : Value} {x : DataW H × List MemPlace} (h : DataW.trod enc Tryd.prog W 0 (fun _ => true) true fuel 32 [c] = some x) (hw : ∀ n ∈ x.1.weights Tryd.prog 32, n ≤ reachBytes) :
    ∃ (p : Option Addr) (cap : Nat) (l : List Pr), c = .slice p l.length cap ∧ PrsAt W p l ∧ l.length ≤ cap ∧ (∀ y ∈ l, y.c.size ≤ 140737488355328 ∧ y.t.size ≤ 140737488355328) ∧ l.length * 32 ≤ 140737488355328 := by
  rcases Go.Deep.open_slice Tryd.underlying32 h with ⟨h0, _⟩ | ⟨a, len, cap, m, k, D, Pl, hcs, _, hl, _, hmm, hxe, hx⟩
  · simp at h0
    exact ⟨none, 0, [], h0, .inl rfl, Nat.le_refl _, (fun _ h => by cases h), by simp⟩
  simp at hcs
  subst hcs
  simp only [if_true] at hmm
  rw [hxe] at hw
  unfold DataW.weights at hw
  rw [Tryd.underlying32] at hw
  have hw2 : ∀ n ∈ (((List.range len).map D).length + ((List.range (m - len)).map fun j => D (len + j)).length) * Tryd.prog.bytesOf 56 :: (DataW.weightsAll Tryd.prog 56 ((List.range len).map D) ++ DataW.weightsAll Tryd.prog 56 ((List.range (m - len)).map fun j => D (len + j))), n ≤ reachBytes := hw
  have hbytes : Tryd.prog.bytesOf 56 = 32 := by kernel_rfl
  have hlen := hw2 _ (List.mem_cons_self ..)
  rw [hbytes, List.length_map, List.length_range] at hlen
  have r := reach_le
  have hlen2 : len * 32 ≤ 140737488355328 := by
    have : len * 32 ≤ (len + ((List.range (m - len)).map fun j => D (len + j)).length) * 32 := Nat.mul_le_mul_right _ (Nat.le_add_right _ _)
    omega
  have hel : ∀ i, i < len → ∀ n ∈ (D i).weights Tryd.prog 56, n ≤ reachBytes := fun i hi n hn =>
    hw2 n (List.mem_cons_of_mem _ (List.mem_append_left _ (mem_all (List.mem_map.2 ⟨i, List.mem_range.2 hi, rfl⟩) hn)))
  have each : ∀ i, i < len → ∃ y : Pr, W.cell? (a.add (i * 2)) = some (.string y.c) ∧ W.cell? (a.add (i * 2 + 1)) = some (.string y.t) ∧ y.c.size ≤ 140737488355328 ∧ y.t.size ≤ 140737488355328 := by
    intro i hi
    obtain ⟨cs', hc, ht'⟩ := hx i (by omega)
    rw [cells39] at hc
    obtain ⟨_, hcl, hat⟩ := World.cells?_some hc
    match cs', hcl with
    | [c0, c1], _ =>
      obtain ⟨y, rfl, rfl, s0, s1⟩ := s_pairM ht' (hel i hi)
      have h0 := hat 0 (by omega)
      have h1 := hat 1 (by omega)
      rw [Go.Deep.add_add] at h0 h1
      exact ⟨y, by simpa using h0, by simpa using h1, s0, s1⟩
  refine ⟨some a, cap, (List.range len).map (fun i => if h : i < len then (each i h).choose else ⟨⟨#[]⟩, ⟨#[]⟩⟩), by simp, ?_, by simp; omega, fun y hy => ?_, by simpa using hlen2⟩
  rotate_left
  · obtain ⟨i, hi, rfl⟩ := List.mem_map.1 hy
    have hi2 : i < len := List.mem_range.1 hi
    rw [dif_pos hi2]
    exact (each i hi2).choose_spec.2.2
  by_cases hn : len = 0
  · left; simp [hn]
  obtain ⟨y0, k0, _⟩ := each 0 (by omega)
  have hs : a.spot = none := spot_none (by simpa using k0)
  refine .inr ⟨a.block, a.off, ?_, fun i y hi => ?_⟩
  · have := add_at hs 0
    simpa [Addr.add] using congrArg some this
  · have hlt : i < len := by simpa using (List.getElem?_eq_some_iff.1 hi).1
    have q := (each i hlt).choose_spec
    have e : (each i hlt).choose = y := by
      rw [List.getElem?_map, List.getElem?_range hlt] at hi
      simpa [hlt] using hi
    rw [e] at q
    exact ⟨(congrArg W.cell? (add_at hs _)).symm.trans q.1, (congrArg W.cell? (add_at hs _)).symm.trans q.2.1⟩

set_option maxRecDepth 100000 in
/-- A version that lies in five cells. -/
theorem s_plan {H : Type} {enc : TypeId × Value → H} {W : World} {fuel : Nat} {c0 c1 c2 c3 c4 : Value} {x : DataW H × List MemPlace} (h : DataW.trod enc Tryd.prog W 0 (fun _ => true) true fuel 34 [c0, c1, c2, c3, c4] = some x) (hw : ∀ n ∈ x.1.weights Tryd.prog 34, n ≤ reachBytes) :
    ∃ y : Pln, c0 = .int .i64 y.v ∧ c1 = .int .i64 y.f ∧ c2 = .int .i64 y.u ∧ c3 = .slice y.cp y.cs.length y.cc ∧ c4 = .slice y.mp y.ms.length y.mc ∧ PlnOk W y ∧ Fit y := by
  obtain ⟨ys, n, hn, hy, hlen, hyl, hf⟩ := DataW.trod_struct Tryd.underlying34 h
  have hy4 : ys.length = 4 := hyl
  obtain ⟨z0, z1, z2, z3, rfl⟩ : ∃ z0 z1 z2 z3, ys = [z0, z1, z2, z3] := by
    match ys, hy4 with
    | [z0, z1, z2, z3], _ => exact ⟨z0, z1, z2, z3, rfl⟩
  have f0 : DataW.trod enc Tryd.prog W 0 (fun _ => true) true n 3 ([c0, c1, c2, c3, c4].take (Tryd.prog.cellsOf 3)) = some z0 := hf 0 _ rfl
  have f1 : DataW.trod enc Tryd.prog W 0 (fun _ => true) true n 30 (([c0, c1, c2, c3, c4].drop 1).take (Tryd.prog.cellsOf 30)) = some z1 := hf 1 _ rfl
  have f2 : DataW.trod enc Tryd.prog W 0 (fun _ => true) true n 31 (([c0, c1, c2, c3, c4].drop 3).take (Tryd.prog.cellsOf 31)) = some z2 := hf 2 _ rfl
  have f3 : DataW.trod enc Tryd.prog W 0 (fun _ => true) true n 32 (([c0, c1, c2, c3, c4].drop 4).take (Tryd.prog.cellsOf 32)) = some z3 := hf 3 _ rfl
  rw [cells3] at f0
  rw [cells23] at f1
  rw [cells24] at f2
  rw [cells25] at f3
  have g0 : DataW.trod enc Tryd.prog W 0 (fun _ => true) true n 3 [c0] = some z0 := f0
  have g1 : DataW.trod enc Tryd.prog W 0 (fun _ => true) true n 30 [c1, c2] = some z1 := f1
  have g2 : DataW.trod enc Tryd.prog W 0 (fun _ => true) true n 31 [c3] = some z2 := f2
  have g3 : DataW.trod enc Tryd.prog W 0 (fun _ => true) true n 32 [c4] = some z3 := f3
  obtain ⟨ys', n', hn', hy', hlen', hyl', hf'⟩ := DataW.trod_struct Tryd.underlying30 g1
  have hy2' : ys'.length = 2 := hyl'
  obtain ⟨w0, w1, rfl⟩ : ∃ z0 z1, ys' = [z0, z1] := by
    match ys', hy2' with
    | [z0, z1], _ => exact ⟨z0, z1, rfl⟩
  have k0 : DataW.trod enc Tryd.prog W 0 (fun _ => true) true n' 3 ([c1, c2].take (Tryd.prog.cellsOf 3)) = some w0 := hf' 0 _ rfl
  have k1 : DataW.trod enc Tryd.prog W 0 (fun _ => true) true n' 3 (([c1, c2].drop 1).take (Tryd.prog.cellsOf 3)) = some w1 := hf' 1 _ rfl
  rw [cells3] at k0 k1
  have l0 : DataW.trod enc Tryd.prog W 0 (fun _ => true) true n' 3 [c1] = some w0 := k0
  have l1 : DataW.trod enc Tryd.prog W 0 (fun _ => true) true n' 3 [c2] = some w1 := k1
  obtain ⟨v, e0, _, _⟩ := DataW.trod_int Tryd.underlying3 g0
  obtain ⟨f, e1, _, _⟩ := DataW.trod_int Tryd.underlying3 l0
  obtain ⟨u, e2, _, _⟩ := DataW.trod_int Tryd.underlying3 l1
  rw [hy] at hw
  unfold DataW.weights at hw
  rw [Tryd.underlying34] at hw
  have hw2 : ∀ n ∈ DataW.weightsEach Tryd.prog [3, 30, 31, 32] [z0.1, z1.1, z2.1, z3.1], n ≤ reachBytes := hw
  obtain ⟨p, cc, cs, e3, hc, _, s1, s2⟩ := s_pairsC g2 (fun n hn => hw2 n (List.mem_append_right _ (List.mem_append_right _ (List.mem_append_left _ hn))))
  obtain ⟨q, mc, ms, e4, hm, _, s3, s4⟩ := s_pairsM g3 (fun n hn => hw2 n (List.mem_append_right _ (List.mem_append_right _ (List.mem_append_right _ (List.mem_append_left _ hn)))))
  simp at e0 e1 e2
  exact ⟨⟨v, f, u, p, cc, cs, q, mc, ms⟩, e0, e1, e2, e3, e4, ⟨hc, hm⟩, ⟨by show (cs.length : Int) ≤ _; omega, by show (ms.length : Int) ≤ _; omega, s1, s3⟩⟩

set_option maxRecDepth 100000 in
/-- Versions that came in. -/
theorem s_plns {H : Type} {enc : TypeId × Value → H} {W : World} {base : Nat} {v : Value} {d : DataW H} {p : List MemPlace} (hv : Value.okWide Tryd.prog W .any base 22 v) (h : DataW.Trod enc Tryd.prog W 0 (fun _ => true) true 22 v d p) (hw : ∀ n ∈ d.weights Tryd.prog 22, n ≤ reachBytes) :
    ∃ (a : Option Addr) (cap : Nat) (l : List Pln), v = .slice a l.length cap ∧ PlnsAt W a l ∧ l.length ≤ cap ∧ (∀ y ∈ l, Fit y) ∧ l.length * 72 ≤ 140737488355328 := by
  obtain ⟨a0, len, cap, rfl⟩ := okWide_slice Tryd.underlying22 hv
  obtain ⟨fuel, hf⟩ := h
  rcases Go.Deep.open_slice Tryd.underlying22 hf with ⟨h0, _⟩ | ⟨a, ln, cp, m, k, D, Pl, hcs, _, hl, _, hmm, hxe, hx⟩
  · simp [Value.cells] at h0
    obtain ⟨rfl, rfl, rfl⟩ := h0
    exact ⟨none, 0, [], rfl, .inl rfl, Nat.le_refl _, (fun _ h => by cases h), by simp⟩
  simp [Value.cells] at hcs
  obtain ⟨rfl, rfl, rfl⟩ := hcs
  simp only [if_true] at hmm
  have hxd : d = .slice ((List.range len).map D) ((List.range (m - len)).map fun j => D (len + j)) := congrArg Prod.fst hxe
  rw [hxd] at hw
  unfold DataW.weights at hw
  rw [Tryd.underlying22] at hw
  have hw2 : ∀ n ∈ (((List.range len).map D).length + ((List.range (m - len)).map fun j => D (len + j)).length) * Tryd.prog.bytesOf 34 :: (DataW.weightsAll Tryd.prog 34 ((List.range len).map D) ++ DataW.weightsAll Tryd.prog 34 ((List.range (m - len)).map fun j => D (len + j))), n ≤ reachBytes := hw
  have hbytes : Tryd.prog.bytesOf 34 = 72 := by kernel_rfl
  have hlen := hw2 _ (List.mem_cons_self ..)
  rw [hbytes, List.length_map, List.length_range] at hlen
  have r := reach_le
  have hlen2 : len * 72 ≤ 140737488355328 := by
    have : len * 72 ≤ (len + ((List.range (m - len)).map fun j => D (len + j)).length) * 72 := Nat.mul_le_mul_right _ (Nat.le_add_right _ _)
    omega
  have hel : ∀ i, i < len → ∀ n ∈ (D i).weights Tryd.prog 34, n ≤ reachBytes := fun i hi n hn =>
    hw2 n (List.mem_cons_of_mem _ (List.mem_append_left _ (mem_all (List.mem_map.2 ⟨i, List.mem_range.2 hi, rfl⟩) hn)))
  have each : ∀ i, i < len → ∃ y : Pln, (W.cell? (a.add (i * 5)) = some (.int .i64 y.v) ∧ W.cell? (a.add (i * 5 + 1)) = some (.int .i64 y.f) ∧ W.cell? (a.add (i * 5 + 2)) = some (.int .i64 y.u) ∧ W.cell? (a.add (i * 5 + 3)) = some (.slice y.cp y.cs.length y.cc) ∧ W.cell? (a.add (i * 5 + 4)) = some (.slice y.mp y.ms.length y.mc)) ∧ PlnOk W y ∧ Fit y := by
    intro i hi
    obtain ⟨cs', hc, ht'⟩ := hx i (by omega)
    rw [cells27] at hc
    obtain ⟨_, hcl, hat⟩ := World.cells?_some hc
    match cs', hcl with
    | [c0, c1, c2, c3, c4], _ =>
      obtain ⟨y, rfl, rfl, rfl, rfl, rfl, hy⟩ := s_plan ht' (hel i hi)
      have h0 := hat 0 (by omega)
      have h1 := hat 1 (by omega)
      have h2 := hat 2 (by omega)
      have h3 := hat 3 (by omega)
      have h4 := hat 4 (by omega)
      rw [Go.Deep.add_add] at h0 h1 h2 h3 h4
      exact ⟨y, ⟨by simpa using h0, by simpa using h1, by simpa using h2, by simpa using h3, by simpa using h4⟩, hy⟩
  refine ⟨some a, cap, (List.range len).map (fun i => if h : i < len then (each i h).choose else ⟨0, 0, 0, none, 0, [], none, 0, []⟩), by simp, ?_, by simp; omega, fun y hy => ?_, by simpa using hlen2⟩
  rotate_left
  · obtain ⟨i, hi, rfl⟩ := List.mem_map.1 hy
    have hi2 : i < len := List.mem_range.1 hi
    rw [dif_pos hi2]
    exact (each i hi2).choose_spec.2.2
  by_cases hn : len = 0
  · left; simp [hn]
  obtain ⟨y0, ⟨k0, _⟩, _⟩ := each 0 (by omega)
  have hs : a.spot = none := spot_none (by simpa using k0)
  refine .inr ⟨a.block, a.off, ?_, fun i y hi => ?_⟩
  · have := add_at hs 0
    simpa [Addr.add] using congrArg some this
  · have hlt : i < len := by simpa using (List.getElem?_eq_some_iff.1 hi).1
    have q := (each i hlt).choose_spec
    have e : (each i hlt).choose = y := by
      rw [List.getElem?_map, List.getElem?_range hlt] at hi
      simpa [hlt] using hi
    rw [e] at q
    exact ⟨⟨(congrArg W.cell? (add_at hs _)).symm.trans q.1.1, (congrArg W.cell? (add_at hs _)).symm.trans q.1.2.1, (congrArg W.cell? (add_at hs _)).symm.trans q.1.2.2.1, (congrArg W.cell? (add_at hs _)).symm.trans q.1.2.2.2.1, (congrArg W.cell? (add_at hs _)).symm.trans q.1.2.2.2.2⟩, q.2.1⟩


section
variable {H : Type} {enc : TypeId × Value → H}
set_option maxRecDepth 100000 in
/-- The wrap, with what the form says of the sizes of what came in. -/
theorem wrap_sized {os : Os} {f : FuncId} {fn : Func} {s : ChangeSpec} (started : os.Started) (noInit : Tryd.checked.prog.inits.idxOf? f = none) (hfn : Tryd.checked.prog.funcs[f]? = some fn)
    (witness : ∃ (w : World) (tape : Tape) (i : Input), w.os = os ∧ (w.forCall tape i).Shaped Tryd.checked.prog ∧ i.vars = [] ∧ Input.okWide Tryd.checked.prog (w.forCall tape i) .any w.heap.size f i ∧
      ((s.pre enc Tryd.checked.prog fn [] false (w.forCall tape i).memory i.args ∧ laidMetH Tryd.prog laid7 (w.forCall tape i).memory) ∧ sizedMet enc Tryd.checked.prog fn (OpenSpec.ofChange s) false (w.forCall tape i).memory i.args) ∧ ({} : Assume).holds Tryd.checked.prog (lone (Frame.enter Tryd.checked.prog f i.args .normal) [] (w.forCall tape i)))
    (hvars : s.vars = [])
    (contract : ∀ (W : World) (base : Nat) (args : Array Value) (ds gs : List (DataW H)) (before : List MemPlace),
      (∀ (j : Nat) t v, fn.params[j]? = some t → args[j]? = some v → Value.okWide Tryd.prog W .any base t v) →
      DataW.Whole enc Tryd.prog fn.params.toList s.vars false W args.toList ds gs before → (∀ n ∈ DataW.weightsEach Tryd.prog fn.params.toList ds, n ≤ reachBytes) → Env W →
      Calls Tryd.prog f args W fun e W' => ∃ v, e = .returned v ∧ s.post enc Tryd.prog fn false true false false W args v W') :
    ReturnsInHanded {} Tryd.checked os f .any (fun w args => (s.pre enc Tryd.checked.prog fn [] false w args ∧ laidMetH Tryd.prog laid7 w) ∧ sizedMet enc Tryd.checked.prog fn (OpenSpec.ofChange s) false w args) (s.post enc Tryd.checked.prog fn false true false false) := by
  refine returnsInHanded_of_calls own started noInit witness ?_
  intro w tape i _ hsh _ hok hpre _
  obtain ⟨_, _, _, fn', hfn', _, _, _, _, hval⟩ := hok
  obtain rfl : fn' = fn := Option.some.inj (hfn'.symm.trans hfn)
  obtain ⟨⟨_, hx⟩, ⟨_, ds, gs, before, hw, hwt⟩⟩ := hpre
  have hl : laidMetH Tryd.prog laid7 (w.forCall tape i) := hx.of_heap (by rfl)
  have hw2 : DataW.Whole enc Tryd.prog fn'.params.toList s.vars false (w.forCall tape i).memory i.args.toList ds gs before := hw
  have hw3 := DataW.Whole.of_heap (w' := w.forCall tape i) (by rfl) hw2
  have hgs : gs = [] := by
    obtain ⟨p, q, hA0, hV, _⟩ := hw3
    rw [hvars] at hV
    exact (trodVars_none hV).1
  subst hgs
  have hsz : ∀ n ∈ DataW.weightsEach Tryd.prog fn'.params.toList ds, n ≤ reachBytes := by
    have hvt : (OpenSpec.ofChange s).bare.plain.varTypes Tryd.prog = [] := by
      have h0 : (OpenSpec.ofChange s).bare.plain.vars = [] := hvars
      unfold DataSpec.varTypes
      rw [h0]
      rfl
    intro n hn
    have h1 := List.all_eq_true.1 hwt n (by
      show n ∈ DataW.weightsEach Tryd.prog (fn'.params.toList ++ (OpenSpec.ofChange s).bare.plain.varTypes Tryd.prog) (ds ++ [])
      rw [hvt, List.append_nil, List.append_nil]
      exact hn)
    simpa using h1
  refine (contract (w.forCall tape i) w.heap.size i.args ds [] before hval hw3 hsz (env_of_laid hl hsh)).mono fun e W' ⟨v, he, hp⟩ => ?_
  subst he
  exact ChangeSpec.post_blind hp
end

end Go.Proofs.YtbjbioiggjhknaaDoor
