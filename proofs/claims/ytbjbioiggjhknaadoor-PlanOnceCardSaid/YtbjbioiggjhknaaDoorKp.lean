/-
  The opening of plans that came in. No statement of the seat is proved here.
-/
import Derived.Test.YtbjbioiggjhknaaDoorKit
namespace Go.Proofs.YtbjbioiggjhknaaDoor
open Go.ChangeShapes Go.WideShapes Go.ChangeAt Go.RowKit Go.Joins

theorem cells44 : Tryd.prog.cellsOf 36 = 2 := by kernel_rfl
theorem cells24 : Tryd.prog.cellsOf 31 = 1 := by kernel_rfl
set_option maxRecDepth 100000 in
theorem open_pairC {H : Type} {enc : TypeId × Value → H} {W : World} {fuel : Nat} {c0 c1 : Value} {x : DataW H × List MemPlace} (h : DataW.trod enc Tryd.prog W 0 (fun _ => true) true fuel 36 [c0, c1] = some x) :
    ∃ y : Pr, c0 = .string y.c ∧ c1 = .string y.t ∧ y.c.size ≤ maxLen ∧ y.t.size ≤ maxLen := by
  obtain ⟨ys, n, hn, hy, hlen, hyl, hf⟩ := DataW.trod_struct Tryd.underlying36 h
  have hy2 : ys.length = 2 := hyl
  obtain ⟨z0, z1, rfl⟩ : ∃ z0 z1, ys = [z0, z1] := by
    match ys, hy2 with
    | [z0, z1], _ => exact ⟨z0, z1, rfl⟩
  have f0 : DataW.trod enc Tryd.prog W 0 (fun _ => true) true n 9 ([c0, c1].take (Tryd.prog.cellsOf 9)) = some z0 := hf 0 _ rfl
  have f1 : DataW.trod enc Tryd.prog W 0 (fun _ => true) true n 9 (([c0, c1].drop 1).take (Tryd.prog.cellsOf 9)) = some z1 := hf 1 _ rfl
  rw [cells9] at f0 f1
  have g0 : DataW.trod enc Tryd.prog W 0 (fun _ => true) true n 9 [c0] = some z0 := f0
  have g1 : DataW.trod enc Tryd.prog W 0 (fun _ => true) true n 9 [c1] = some z1 := f1
  obtain ⟨s, e0, _, k0⟩ := DataW.trod_string Tryd.underlying9 g0
  obtain ⟨t, e1, _, k1⟩ := DataW.trod_string Tryd.underlying9 g1
  simp at e0 e1
  exact ⟨⟨s, t⟩, e0, e1, k0, k1⟩

set_option maxRecDepth 100000 in
theorem open_pairsC {H : Type} {enc : TypeId × Value → H} {W : World} {fuel : Nat} {c : Value} {x : DataW H × List MemPlace} (h : DataW.trod enc Tryd.prog W 0 (fun _ => true) true fuel 31 [c] = some x) :
    ∃ (p : Option Addr) (cap : Nat) (l : List Pr), c = .slice p l.length cap ∧ PrsAt W p l ∧ l.length ≤ cap := by
  rcases Go.Deep.open_slice Tryd.underlying31 h with ⟨h0, _⟩ | ⟨a, len, cap, m, k, D, Pl, hcs, _, hl, _, hmm, _, hx⟩
  · simp at h0
    exact ⟨none, 0, [], h0, .inl rfl, Nat.le_refl _⟩
  simp at hcs
  subst hcs
  simp only [if_true] at hmm
  have each : ∀ i, i < len → ∃ y : Pr, W.cell? (a.add (i * 2)) = some (.string y.c) ∧ W.cell? (a.add (i * 2 + 1)) = some (.string y.t) := by
    intro i hi
    obtain ⟨cs', hc, ht'⟩ := hx i (by omega)
    rw [cells44] at hc
    obtain ⟨_, hcl, hat⟩ := World.cells?_some hc
    match cs', hcl with
    | [c0, c1], _ =>
      obtain ⟨y, rfl, rfl, _, _⟩ := open_pairC ht'
      have h0 := hat 0 (by omega)
      have h1 := hat 1 (by omega)
      rw [Go.Deep.add_add] at h0 h1
      exact ⟨y, by simpa using h0, by simpa using h1⟩
  refine ⟨some a, cap, (List.range len).map (fun i => if h : i < len then (each i h).choose else ⟨⟨#[]⟩, ⟨#[]⟩⟩), by simp, ?_, by simp; omega⟩
  by_cases hn : len = 0
  · left; simp [hn]
  obtain ⟨y0, k0, _⟩ := each 0 (by omega)
  have hs : a.spot = none := spot_none (by simpa using k0)
  refine .inr ⟨a.block, a.off, ?_, fun i y hi => ?_⟩
  · have := add_at hs 0
    simpa [Addr.add] using congrArg some this
  · have hlt : i < len := by simpa using (List.getElem?_eq_some_iff.1 hi).1
    have q := (each i hlt).choose_spec
    have e : (each i hlt).choose = y := by
      rw [List.getElem?_map, List.getElem?_range hlt] at hi
      simpa [hlt] using hi
    rw [e] at q
    exact ⟨(congrArg W.cell? (add_at hs _)).symm.trans q.1, (congrArg W.cell? (add_at hs _)).symm.trans q.2⟩

theorem cells39 : Tryd.prog.cellsOf 56 = 2 := by kernel_rfl
theorem cells25 : Tryd.prog.cellsOf 32 = 1 := by kernel_rfl
set_option maxRecDepth 100000 in
theorem open_pairM {H : Type} {enc : TypeId × Value → H} {W : World} {fuel : Nat} {c0 c1 : Value} {x : DataW H × List MemPlace} (h : DataW.trod enc Tryd.prog W 0 (fun _ => true) true fuel 56 [c0, c1] = some x) :
    ∃ y : Pr, c0 = .string y.c ∧ c1 = .string y.t ∧ y.c.size ≤ maxLen ∧ y.t.size ≤ maxLen := by
  obtain ⟨ys, n, hn, hy, hlen, hyl, hf⟩ := DataW.trod_struct Tryd.underlying56 h
  have hy2 : ys.length = 2 := hyl
  obtain ⟨z0, z1, rfl⟩ : ∃ z0 z1, ys = [z0, z1] := by
    match ys, hy2 with
    | [z0, z1], _ => exact ⟨z0, z1, rfl⟩
  have f0 : DataW.trod enc Tryd.prog W 0 (fun _ => true) true n 9 ([c0, c1].take (Tryd.prog.cellsOf 9)) = some z0 := hf 0 _ rfl
  have f1 : DataW.trod enc Tryd.prog W 0 (fun _ => true) true n 9 (([c0, c1].drop 1).take (Tryd.prog.cellsOf 9)) = some z1 := hf 1 _ rfl
  rw [cells9] at f0 f1
  have g0 : DataW.trod enc Tryd.prog W 0 (fun _ => true) true n 9 [c0] = some z0 := f0
  have g1 : DataW.trod enc Tryd.prog W 0 (fun _ => true) true n 9 [c1] = some z1 := f1
  obtain ⟨s, e0, _, k0⟩ := DataW.trod_string Tryd.underlying9 g0
  obtain ⟨t, e1, _, k1⟩ := DataW.trod_string Tryd.underlying9 g1
  simp at e0 e1
  exact ⟨⟨s, t⟩, e0, e1, k0, k1⟩

set_option maxRecDepth 100000 in
theorem open_pairsM {H : Type} {enc : TypeId × Value → H} {W : World} {fuel : Nat} {c : Value} {x : DataW H × List MemPlace} (h : DataW.trod enc Tryd.prog W 0 (fun _ => true) true fuel 32 [c] = some x) :
    ∃ (p : Option Addr) (cap : Nat) (l : List Pr), c = .slice p l.length cap ∧ PrsAt W p l ∧ l.length ≤ cap := by
  rcases Go.Deep.open_slice Tryd.underlying32 h with ⟨h0, _⟩ | ⟨a, len, cap, m, k, D, Pl, hcs, _, hl, _, hmm, _, hx⟩
  · simp at h0
    exact ⟨none, 0, [], h0, .inl rfl, Nat.le_refl _⟩
  simp at hcs
  subst hcs
  simp only [if_true] at hmm
  have each : ∀ i, i < len → ∃ y : Pr, W.cell? (a.add (i * 2)) = some (.string y.c) ∧ W.cell? (a.add (i * 2 + 1)) = some (.string y.t) := by
    intro i hi
    obtain ⟨cs', hc, ht'⟩ := hx i (by omega)
    rw [cells39] at hc
    obtain ⟨_, hcl, hat⟩ := World.cells?_some hc
    match cs', hcl with
    | [c0, c1], _ =>
      obtain ⟨y, rfl, rfl, _, _⟩ := open_pairM ht'
      have h0 := hat 0 (by omega)
      have h1 := hat 1 (by omega)
      rw [Go.Deep.add_add] at h0 h1
      exact ⟨y, by simpa using h0, by simpa using h1⟩
  refine ⟨some a, cap, (List.range len).map (fun i => if h : i < len then (each i h).choose else ⟨⟨#[]⟩, ⟨#[]⟩⟩), by simp, ?_, by simp; omega⟩
  by_cases hn : len = 0
  · left; simp [hn]
  obtain ⟨y0, k0, _⟩ := each 0 (by omega)
  have hs : a.spot = none := spot_none (by simpa using k0)
  refine .inr ⟨a.block, a.off, ?_, fun i y hi => ?_⟩
  · have := add_at hs 0
    simpa [Addr.add] using congrArg some this
  · have hlt : i < len := by simpa using (List.getElem?_eq_some_iff.1 hi).1
    have q := (each i hlt).choose_spec
    have e : (each i hlt).choose = y := by
      rw [List.getElem?_map, List.getElem?_range hlt] at hi
      simpa [hlt] using hi
    rw [e] at q
    exact ⟨(congrArg W.cell? (add_at hs _)).symm.trans q.1, (congrArg W.cell? (add_at hs _)).symm.trans q.2⟩

theorem cells23 : Tryd.prog.cellsOf 30 = 2 := by kernel_rfl
theorem cells27 : Tryd.prog.cellsOf 34 = 5 := by kernel_rfl
set_option maxRecDepth 100000 in
/-- A version that lies in five cells. -/
theorem open_plan {H : Type} {enc : TypeId × Value → H} {W : World} {fuel : Nat} {c0 c1 c2 c3 c4 : Value} {x : DataW H × List MemPlace} (h : DataW.trod enc Tryd.prog W 0 (fun _ => true) true fuel 34 [c0, c1, c2, c3, c4] = some x) :
    ∃ y : Pln, c0 = .int .i64 y.v ∧ c1 = .int .i64 y.f ∧ c2 = .int .i64 y.u ∧ c3 = .slice y.cp y.cs.length y.cc ∧ c4 = .slice y.mp y.ms.length y.mc ∧ PlnOk W y := by
  obtain ⟨ys, n, hn, hy, hlen, hyl, hf⟩ := DataW.trod_struct Tryd.underlying34 h
  have hy4 : ys.length = 4 := hyl
  obtain ⟨z0, z1, z2, z3, rfl⟩ : ∃ z0 z1 z2 z3, ys = [z0, z1, z2, z3] := by
    match ys, hy4 with
    | [z0, z1, z2, z3], _ => exact ⟨z0, z1, z2, z3, rfl⟩
  have f0 : DataW.trod enc Tryd.prog W 0 (fun _ => true) true n 3 ([c0, c1, c2, c3, c4].take (Tryd.prog.cellsOf 3)) = some z0 := hf 0 _ rfl
  have f1 : DataW.trod enc Tryd.prog W 0 (fun _ => true) true n 30 (([c0, c1, c2, c3, c4].drop 1).take (Tryd.prog.cellsOf 30)) = some z1 := hf 1 _ rfl
  have f2 : DataW.trod enc Tryd.prog W 0 (fun _ => true) true n 31 (([c0, c1, c2, c3, c4].drop 3).take (Tryd.prog.cellsOf 31)) = some z2 := hf 2 _ rfl
  have f3 : DataW.trod enc Tryd.prog W 0 (fun _ => true) true n 32 (([c0, c1, c2, c3, c4].drop 4).take (Tryd.prog.cellsOf 32)) = some z3 := hf 3 _ rfl
  rw [cells3] at f0
  rw [cells23] at f1
  rw [cells24] at f2
  rw [cells25] at f3
  have g0 : DataW.trod enc Tryd.prog W 0 (fun _ => true) true n 3 [c0] = some z0 := f0
  have g1 : DataW.trod enc Tryd.prog W 0 (fun _ => true) true n 30 [c1, c2] = some z1 := f1
  have g2 : DataW.trod enc Tryd.prog W 0 (fun _ => true) true n 31 [c3] = some z2 := f2
  have g3 : DataW.trod enc Tryd.prog W 0 (fun _ => true) true n 32 [c4] = some z3 := f3
  obtain ⟨ys', n', hn', hy', hlen', hyl', hf'⟩ := DataW.trod_struct Tryd.underlying30 g1
  have hy2' : ys'.length = 2 := hyl'
  obtain ⟨w0, w1, rfl⟩ : ∃ z0 z1, ys' = [z0, z1] := by
    match ys', hy2' with
    | [z0, z1], _ => exact ⟨z0, z1, rfl⟩
  have k0 : DataW.trod enc Tryd.prog W 0 (fun _ => true) true n' 3 ([c1, c2].take (Tryd.prog.cellsOf 3)) = some w0 := hf' 0 _ rfl
  have k1 : DataW.trod enc Tryd.prog W 0 (fun _ => true) true n' 3 (([c1, c2].drop 1).take (Tryd.prog.cellsOf 3)) = some w1 := hf' 1 _ rfl
  rw [cells3] at k0 k1
  have l0 : DataW.trod enc Tryd.prog W 0 (fun _ => true) true n' 3 [c1] = some w0 := k0
  have l1 : DataW.trod enc Tryd.prog W 0 (fun _ => true) true n' 3 [c2] = some w1 := k1
  obtain ⟨v, e0, _, _⟩ := DataW.trod_int Tryd.underlying3 g0
  obtain ⟨f, e1, _, _⟩ := DataW.trod_int Tryd.underlying3 l0
  obtain ⟨u, e2, _, _⟩ := DataW.trod_int Tryd.underlying3 l1
  obtain ⟨p, cc, cs, e3, hc, _⟩ := open_pairsC g2
  obtain ⟨q, mc, ms, e4, hm, _⟩ := open_pairsM g3
  simp at e0 e1 e2
  exact ⟨⟨v, f, u, p, cc, cs, q, mc, ms⟩, e0, e1, e2, e3, e4, hc, hm⟩

set_option maxRecDepth 100000 in
/-- A version that came in, by value. -/
theorem open_pln {H : Type} {enc : TypeId × Value → H} {W : World} {base : Nat} {v : Value} {d : DataW H} {p : List MemPlace} (hv : Value.okWide Tryd.prog W .any base 34 v) (h : DataW.Trod enc Tryd.prog W 0 (fun _ => true) true 34 v d p) :
    ∃ x : Pln, v = x.val ∧ PlnOk W x := by
  obtain ⟨cs, rfl, hsz⟩ := okWide_struct Tryd.underlying34 hv
  obtain ⟨fuel, hf⟩ := h
  have hl : cs.toList.length = 5 := by rw [Array.length_toList, hsz, cells27]
  obtain ⟨c0, c1, c2, c3, c4, hcs⟩ : ∃ c0 c1 c2 c3 c4, cs.toList = [c0, c1, c2, c3, c4] := by
    match cs.toList, hl with
    | [c0, c1, c2, c3, c4], _ => exact ⟨c0, c1, c2, c3, c4, rfl⟩
  obtain rfl : cs = #[c0, c1, c2, c3, c4] := by rw [← hcs]
  obtain ⟨y, rfl, rfl, rfl, rfl, rfl, hy⟩ := open_plan hf
  exact ⟨y, rfl, hy⟩

set_option maxRecDepth 100000 in
/-- Versions that came in. -/
theorem open_plns {H : Type} {enc : TypeId × Value → H} {W : World} {base : Nat} {v : Value} {d : DataW H} {p : List MemPlace} (hv : Value.okWide Tryd.prog W .any base 22 v) (h : DataW.Trod enc Tryd.prog W 0 (fun _ => true) true 22 v d p) :
    ∃ (a : Option Addr) (cap : Nat) (l : List Pln), v = .slice a l.length cap ∧ PlnsAt W a l ∧ l.length ≤ cap := by
  obtain ⟨a0, len, cap, rfl⟩ := okWide_slice Tryd.underlying22 hv
  obtain ⟨fuel, hf⟩ := h
  rcases Go.Deep.open_slice Tryd.underlying22 hf with ⟨h0, _⟩ | ⟨a, ln, cp, m, k, D, Pl, hcs, _, hl, _, hmm, _, hx⟩
  · simp [Value.cells] at h0
    obtain ⟨rfl, rfl, rfl⟩ := h0
    exact ⟨none, 0, [], rfl, .inl rfl, Nat.le_refl _⟩
  simp [Value.cells] at hcs
  obtain ⟨rfl, rfl, rfl⟩ := hcs
  simp only [if_true] at hmm
  have each : ∀ i, i < len → ∃ y : Pln, (W.cell? (a.add (i * 5)) = some (.int .i64 y.v) ∧ W.cell? (a.add (i * 5 + 1)) = some (.int .i64 y.f) ∧ W.cell? (a.add (i * 5 + 2)) = some (.int .i64 y.u) ∧ W.cell? (a.add (i * 5 + 3)) = some (.slice y.cp y.cs.length y.cc) ∧ W.cell? (a.add (i * 5 + 4)) = some (.slice y.mp y.ms.length y.mc)) ∧ PlnOk W y := by
    intro i hi
    obtain ⟨cs', hc, ht'⟩ := hx i (by omega)
    rw [cells27] at hc
    obtain ⟨_, hcl, hat⟩ := World.cells?_some hc
    match cs', hcl with
    | [c0, c1, c2, c3, c4], _ =>
      obtain ⟨y, rfl, rfl, rfl, rfl, rfl, hy⟩ := open_plan ht'
      have h0 := hat 0 (by omega)
      have h1 := hat 1 (by omega)
      have h2 := hat 2 (by omega)
      have h3 := hat 3 (by omega)
      have h4 := hat 4 (by omega)
      rw [Go.Deep.add_add] at h0 h1 h2 h3 h4
      exact ⟨y, ⟨by simpa using h0, by simpa using h1, by simpa using h2, by simpa using h3, by simpa using h4⟩, hy⟩
  refine ⟨some a, cap, (List.range len).map (fun i => if h : i < len then (each i h).choose else ⟨0, 0, 0, none, 0, [], none, 0, []⟩), by simp, ?_, by simp; omega⟩
  by_cases hn : len = 0
  · left; simp [hn]
  obtain ⟨y0, ⟨k0, _⟩, _⟩ := each 0 (by omega)
  have hs : a.spot = none := spot_none (by simpa using k0)
  refine .inr ⟨a.block, a.off, ?_, fun i y hi => ?_⟩
  · have := add_at hs 0
    simpa [Addr.add] using congrArg some this
  · have hlt : i < len := by simpa using (List.getElem?_eq_some_iff.1 hi).1
    have q := (each i hlt).choose_spec
    have e : (each i hlt).choose = y := by
      rw [List.getElem?_map, List.getElem?_range hlt] at hi
      simpa [hlt] using hi
    rw [e] at q
    exact ⟨⟨(congrArg W.cell? (add_at hs _)).symm.trans q.1.1, (congrArg W.cell? (add_at hs _)).symm.trans q.1.2.1, (congrArg W.cell? (add_at hs _)).symm.trans q.1.2.2.1, (congrArg W.cell? (add_at hs _)).symm.trans q.1.2.2.2.1, (congrArg W.cell? (add_at hs _)).symm.trans q.1.2.2.2.2⟩, q.2⟩

end Go.Proofs.YtbjbioiggjhknaaDoor
