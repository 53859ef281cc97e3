/-
  What Parse answers where the third, fourth, fifth or no reader answers. No statement of the seat is proved here.
-/
import Derived.Test.YtjpiaccpcmlfnaaDoorPar
namespace Go.Proofs.YtjpiaccpcmlfnaaDoor
open Go.RowKit Cal

set_option maxRecDepth 100000 in
set_option maxHeartbeats 8000000 in
theorem Parse_at2 (s : ByteArray) (F0 L0 E0 F1 L1 E1 F2 L2 E2 : Int) (w : World) (hT : Table w)
    (C0 : ∀ w, Table w → Calls Tryd.prog 60 #[.string s] w fun e w' => e = Ans F0 L0 E0 ∧ Below w.heap.size w w')
    (C1 : ∀ w, Table w → Calls Tryd.prog 61 #[.string s] w fun e w' => e = Ans F1 L1 E1 ∧ Below w.heap.size w w')
    (C2 : ∀ w k, Table w → w.cell? ⟨k, 0, none⟩ = some (.string beW) → w.cell? ⟨k + 1, 0, none⟩ = some (.func (.func 63) #[] #[]) → Calls Tryd.prog 77 #[.string s, .pointer (some ⟨k, 0, none⟩), .pointer (some ⟨k + 1, 0, none⟩)] w fun e w' => e = Ans F2 L2 E2 ∧ Below w.heap.size w w')
    (h0 : E0 = 3) (h1 : E1 = 3) (h2 : E2 ≠ 3) :
    Calls Tryd.prog 26 #[.string s] w fun e w' => e = Ans F2 L2 E2 ∧ Below w.heap.size w w' := by
  have HT := Lib.hid hT
  have hlt := hT.lt
  have D0 := Lib.hid C0
  have b0 : (E0 != 3) = false := by simp [h0]
  have D1 := Lib.hid C1
  have b1 : (E1 != 3) = false := by simp [h1]
  have D2 := Lib.hid C2
  have b2 : (E2 != 3) = true := by simp [h2]
  clear hT C0 h0 C1 h1 C2 h2
  go_enter Tryd.func26, Tryd.ntmps26
  go_wp2_with fail
  refine (readers_is _).mono ?_
  rintro e w1 ⟨k, j, rfl, k0, k1, j0, j1, hb1⟩
  have B1 : Hid (Below w.heap.size w w1) := ((Below.refl _ w).alloc (Nat.le_refl _) _).trans (hb1.mono (by simp))
  have R1 : Hid (HoldsN 2 w1 w.heap.size (fun i => [Value.int .i64 0, Value.int .i64 0].getD i undef)) := (HoldsN.new w [Value.int .i64 0, Value.int .i64 0] 23 2 rfl).below hb1 (by simp)
  have K1 : Hid (_ ∧ _ ∧ _ ∧ _) := And.intro k0 (And.intro k1 (And.intro j0 j1))
  clear hb1 k0 k1 j0 j1
  unfold wR
  have x0 := rx0 k j
  have x1 := rx1 k j
  have x2 := rx2 k j
  obtain ⟨A, hA⟩ : ∃ A, A = rsA k j := ⟨_, rfl⟩
  have hA' : #[Value.func (Fn.func 60) #[] #[], Value.func (Fn.func 61) #[] #[], Value.func (Fn.func 77) #[] #[Value.pointer (some ⟨k, 0, none⟩), Value.pointer (some ⟨k + 1, 0, none⟩)], Value.func (Fn.func 77) #[] #[Value.pointer (some ⟨j, 0, none⟩), Value.pointer (some ⟨j + 1, 0, none⟩)], Value.func (Fn.func 65) #[] #[]] = A := hA.symm
  rw [hA']
  rw [← hA] at x0 x1 x2
  clear hA hA'
  go_wp2_with fail
  refine wp_loop_rounds 7 ?_
  rw [rounds_succ]
  go_wp2_with fail
  refine (D0.out _ (HT.out.below B1.out)).mono ?_
  rintro e v0 ⟨rfl, hb⟩
  have z0 : w.heap.size < w1.heap.size := R1.out.1
  obtain ⟨w2, hN⟩ : ∃ V : World, v0.alloc (.cells #[.int .i64 F0, .int .i64 L0] 23) = V := ⟨_, rfl⟩
  have hc : Below w1.heap.size w1 w2 := by rw [← hN]; exact hb.alloc hb.size _
  have B2 : Hid (Below w.heap.size w w2) := B1.out.trans (hc.mono (by omega))
  have R2 := Lib.hid (R1.out.below hc (by omega))
  have q0 : w2.cell? ⟨v0.heap.size, 0, none⟩ = some (.int .i64 F0) := by rw [← hN, World.cell?_alloc_new]; rfl
  have q1 : w2.cell? ⟨v0.heap.size, 1, none⟩ = some (.int .i64 L0) := by rw [← hN, World.cell?_alloc_new]; rfl
  have K2 : Hid (_ ∧ _ ∧ _ ∧ _) := And.intro ((hc.cell (p := ⟨k, 0, none⟩) (World.block_lt_of_cell? _ _ K1.out.1)).trans K1.out.1) (And.intro ((hc.cell (p := ⟨k + 1, 0, none⟩) (World.block_lt_of_cell? _ _ K1.out.2.1)).trans K1.out.2.1) (And.intro ((hc.cell (p := ⟨j, 0, none⟩) (World.block_lt_of_cell? _ _ K1.out.2.2.1)).trans K1.out.2.2.1) ((hc.cell (p := ⟨j + 1, 0, none⟩) (World.block_lt_of_cell? _ _ K1.out.2.2.2)).trans K1.out.2.2.2)))
  clear hb hc
  clear q0 q1
  go_wp2_with fail
  try rw [hN]
  clear hN
  rw [rounds_succ]
  go_wp2_with fail
  refine (D1.out _ (HT.out.below B2.out)).mono ?_
  rintro e v1 ⟨rfl, hb⟩
  have z1 : w.heap.size < w2.heap.size := R2.out.1
  obtain ⟨w3, hN⟩ : ∃ V : World, v1.alloc (.cells #[.int .i64 F1, .int .i64 L1] 23) = V := ⟨_, rfl⟩
  have hc : Below w2.heap.size w2 w3 := by rw [← hN]; exact hb.alloc hb.size _
  have B3 : Hid (Below w.heap.size w w3) := B2.out.trans (hc.mono (by omega))
  have R3 := Lib.hid (R2.out.below hc (by omega))
  have q0 : w3.cell? ⟨v1.heap.size, 0, none⟩ = some (.int .i64 F1) := by rw [← hN, World.cell?_alloc_new]; rfl
  have q1 : w3.cell? ⟨v1.heap.size, 1, none⟩ = some (.int .i64 L1) := by rw [← hN, World.cell?_alloc_new]; rfl
  have K3 : Hid (_ ∧ _ ∧ _ ∧ _) := And.intro ((hc.cell (p := ⟨k, 0, none⟩) (World.block_lt_of_cell? _ _ K2.out.1)).trans K2.out.1) (And.intro ((hc.cell (p := ⟨k + 1, 0, none⟩) (World.block_lt_of_cell? _ _ K2.out.2.1)).trans K2.out.2.1) (And.intro ((hc.cell (p := ⟨j, 0, none⟩) (World.block_lt_of_cell? _ _ K2.out.2.2.1)).trans K2.out.2.2.1) ((hc.cell (p := ⟨j + 1, 0, none⟩) (World.block_lt_of_cell? _ _ K2.out.2.2.2)).trans K2.out.2.2.2)))
  clear hb hc
  clear q0 q1
  go_wp2_with fail
  try rw [hN]
  clear hN
  rw [rounds_succ]
  go_wp2_with fail
  refine (D2.out _ k (HT.out.below B3.out) K3.out.1 K3.out.2.1).mono ?_
  rintro e v2 ⟨rfl, hb⟩
  have z2 : w.heap.size < w3.heap.size := R3.out.1
  obtain ⟨w4, hN⟩ : ∃ V : World, v2.alloc (.cells #[.int .i64 F2, .int .i64 L2] 23) = V := ⟨_, rfl⟩
  have hc : Below w3.heap.size w3 w4 := by rw [← hN]; exact hb.alloc hb.size _
  have B4 : Hid (Below w.heap.size w w4) := B3.out.trans (hc.mono (by omega))
  have R4 := Lib.hid (R3.out.below hc (by omega))
  have q0 : w4.cell? ⟨v2.heap.size, 0, none⟩ = some (.int .i64 F2) := by rw [← hN, World.cell?_alloc_new]; rfl
  have q1 : w4.cell? ⟨v2.heap.size, 1, none⟩ = some (.int .i64 L2) := by rw [← hN, World.cell?_alloc_new]; rfl
  have K4 : Hid (_ ∧ _ ∧ _ ∧ _) := And.intro ((hc.cell (p := ⟨k, 0, none⟩) (World.block_lt_of_cell? _ _ K3.out.1)).trans K3.out.1) (And.intro ((hc.cell (p := ⟨k + 1, 0, none⟩) (World.block_lt_of_cell? _ _ K3.out.2.1)).trans K3.out.2.1) (And.intro ((hc.cell (p := ⟨j, 0, none⟩) (World.block_lt_of_cell? _ _ K3.out.2.2.1)).trans K3.out.2.2.1) ((hc.cell (p := ⟨j + 1, 0, none⟩) (World.block_lt_of_cell? _ _ K3.out.2.2.2)).trans K3.out.2.2.2)))
  clear hb hc
  have c0 := R4.out.cell 0 (by omega); have f0 := R4.out.frozen 0 (by omega)
  have c1 := R4.out.cell 1 (by omega); have f1 := R4.out.frozen 1 (by omega)
  go_wp2_with fail
  try rw [hN] at c0 c1
  try rw [hN]
  refine bodyPost_ret (by simp [results, Tryd.results26, go_sem, set20 c0, set21 c1] <;> rfl) rfl ⟨rfl, (B4.out.setCell (p := ⟨w.heap.size, 0, none⟩) (Nat.le_refl _) _).setCell (p := ⟨w.heap.size, 1, none⟩) (Nat.le_refl _) _⟩

set_option maxRecDepth 100000 in
set_option maxHeartbeats 8000000 in
theorem Parse_at3 (s : ByteArray) (F0 L0 E0 F1 L1 E1 F2 L2 E2 F3 L3 E3 : Int) (w : World) (hT : Table w)
    (C0 : ∀ w, Table w → Calls Tryd.prog 60 #[.string s] w fun e w' => e = Ans F0 L0 E0 ∧ Below w.heap.size w w')
    (C1 : ∀ w, Table w → Calls Tryd.prog 61 #[.string s] w fun e w' => e = Ans F1 L1 E1 ∧ Below w.heap.size w w')
    (C2 : ∀ w k, Table w → w.cell? ⟨k, 0, none⟩ = some (.string beW) → w.cell? ⟨k + 1, 0, none⟩ = some (.func (.func 63) #[] #[]) → Calls Tryd.prog 77 #[.string s, .pointer (some ⟨k, 0, none⟩), .pointer (some ⟨k + 1, 0, none⟩)] w fun e w' => e = Ans F2 L2 E2 ∧ Below w.heap.size w w')
    (C3 : ∀ w k, Table w → w.cell? ⟨k, 0, none⟩ = some (.string afW) → w.cell? ⟨k + 1, 0, none⟩ = some (.func (.func 64) #[] #[]) → Calls Tryd.prog 77 #[.string s, .pointer (some ⟨k, 0, none⟩), .pointer (some ⟨k + 1, 0, none⟩)] w fun e w' => e = Ans F3 L3 E3 ∧ Below w.heap.size w w')
    (h0 : E0 = 3) (h1 : E1 = 3) (h2 : E2 = 3) (h3 : E3 ≠ 3) :
    Calls Tryd.prog 26 #[.string s] w fun e w' => e = Ans F3 L3 E3 ∧ Below w.heap.size w w' := by
  have HT := Lib.hid hT
  have hlt := hT.lt
  have D0 := Lib.hid C0
  have b0 : (E0 != 3) = false := by simp [h0]
  have D1 := Lib.hid C1
  have b1 : (E1 != 3) = false := by simp [h1]
  have D2 := Lib.hid C2
  have b2 : (E2 != 3) = false := by simp [h2]
  have D3 := Lib.hid C3
  have b3 : (E3 != 3) = true := by simp [h3]
  clear hT C0 h0 C1 h1 C2 h2 C3 h3
  go_enter Tryd.func26, Tryd.ntmps26
  go_wp2_with fail
  refine (readers_is _).mono ?_
  rintro e w1 ⟨k, j, rfl, k0, k1, j0, j1, hb1⟩
  have B1 : Hid (Below w.heap.size w w1) := ((Below.refl _ w).alloc (Nat.le_refl _) _).trans (hb1.mono (by simp))
  have R1 : Hid (HoldsN 2 w1 w.heap.size (fun i => [Value.int .i64 0, Value.int .i64 0].getD i undef)) := (HoldsN.new w [Value.int .i64 0, Value.int .i64 0] 23 2 rfl).below hb1 (by simp)
  have K1 : Hid (_ ∧ _ ∧ _ ∧ _) := And.intro k0 (And.intro k1 (And.intro j0 j1))
  clear hb1 k0 k1 j0 j1
  unfold wR
  have x0 := rx0 k j
  have x1 := rx1 k j
  have x2 := rx2 k j
  have x3 := rx3 k j
  obtain ⟨A, hA⟩ : ∃ A, A = rsA k j := ⟨_, rfl⟩
  have hA' : #[Value.func (Fn.func 60) #[] #[], Value.func (Fn.func 61) #[] #[], Value.func (Fn.func 77) #[] #[Value.pointer (some ⟨k, 0, none⟩), Value.pointer (some ⟨k + 1, 0, none⟩)], Value.func (Fn.func 77) #[] #[Value.pointer (some ⟨j, 0, none⟩), Value.pointer (some ⟨j + 1, 0, none⟩)], Value.func (Fn.func 65) #[] #[]] = A := hA.symm
  rw [hA']
  rw [← hA] at x0 x1 x2 x3
  clear hA hA'
  go_wp2_with fail
  refine wp_loop_rounds 7 ?_
  rw [rounds_succ]
  go_wp2_with fail
  refine (D0.out _ (HT.out.below B1.out)).mono ?_
  rintro e v0 ⟨rfl, hb⟩
  have z0 : w.heap.size < w1.heap.size := R1.out.1
  obtain ⟨w2, hN⟩ : ∃ V : World, v0.alloc (.cells #[.int .i64 F0, .int .i64 L0] 23) = V := ⟨_, rfl⟩
  have hc : Below w1.heap.size w1 w2 := by rw [← hN]; exact hb.alloc hb.size _
  have B2 : Hid (Below w.heap.size w w2) := B1.out.trans (hc.mono (by omega))
  have R2 := Lib.hid (R1.out.below hc (by omega))
  have q0 : w2.cell? ⟨v0.heap.size, 0, none⟩ = some (.int .i64 F0) := by rw [← hN, World.cell?_alloc_new]; rfl
  have q1 : w2.cell? ⟨v0.heap.size, 1, none⟩ = some (.int .i64 L0) := by rw [← hN, World.cell?_alloc_new]; rfl
  have K2 : Hid (_ ∧ _ ∧ _ ∧ _) := And.intro ((hc.cell (p := ⟨k, 0, none⟩) (World.block_lt_of_cell? _ _ K1.out.1)).trans K1.out.1) (And.intro ((hc.cell (p := ⟨k + 1, 0, none⟩) (World.block_lt_of_cell? _ _ K1.out.2.1)).trans K1.out.2.1) (And.intro ((hc.cell (p := ⟨j, 0, none⟩) (World.block_lt_of_cell? _ _ K1.out.2.2.1)).trans K1.out.2.2.1) ((hc.cell (p := ⟨j + 1, 0, none⟩) (World.block_lt_of_cell? _ _ K1.out.2.2.2)).trans K1.out.2.2.2)))
  clear hb hc
  clear q0 q1
  go_wp2_with fail
  try rw [hN]
  clear hN
  rw [rounds_succ]
  go_wp2_with fail
  refine (D1.out _ (HT.out.below B2.out)).mono ?_
  rintro e v1 ⟨rfl, hb⟩
  have z1 : w.heap.size < w2.heap.size := R2.out.1
  obtain ⟨w3, hN⟩ : ∃ V : World, v1.alloc (.cells #[.int .i64 F1, .int .i64 L1] 23) = V := ⟨_, rfl⟩
  have hc : Below w2.heap.size w2 w3 := by rw [← hN]; exact hb.alloc hb.size _
  have B3 : Hid (Below w.heap.size w w3) := B2.out.trans (hc.mono (by omega))
  have R3 := Lib.hid (R2.out.below hc (by omega))
  have q0 : w3.cell? ⟨v1.heap.size, 0, none⟩ = some (.int .i64 F1) := by rw [← hN, World.cell?_alloc_new]; rfl
  have q1 : w3.cell? ⟨v1.heap.size, 1, none⟩ = some (.int .i64 L1) := by rw [← hN, World.cell?_alloc_new]; rfl
  have K3 : Hid (_ ∧ _ ∧ _ ∧ _) := And.intro ((hc.cell (p := ⟨k, 0, none⟩) (World.block_lt_of_cell? _ _ K2.out.1)).trans K2.out.1) (And.intro ((hc.cell (p := ⟨k + 1, 0, none⟩) (World.block_lt_of_cell? _ _ K2.out.2.1)).trans K2.out.2.1) (And.intro ((hc.cell (p := ⟨j, 0, none⟩) (World.block_lt_of_cell? _ _ K2.out.2.2.1)).trans K2.out.2.2.1) ((hc.cell (p := ⟨j + 1, 0, none⟩) (World.block_lt_of_cell? _ _ K2.out.2.2.2)).trans K2.out.2.2.2)))
  clear hb hc
  clear q0 q1
  go_wp2_with fail
  try rw [hN]
  clear hN
  rw [rounds_succ]
  go_wp2_with fail
  refine (D2.out _ k (HT.out.below B3.out) K3.out.1 K3.out.2.1).mono ?_
  rintro e v2 ⟨rfl, hb⟩
  have z2 : w.heap.size < w3.heap.size := R3.out.1
  obtain ⟨w4, hN⟩ : ∃ V : World, v2.alloc (.cells #[.int .i64 F2, .int .i64 L2] 23) = V := ⟨_, rfl⟩
  have hc : Below w3.heap.size w3 w4 := by rw [← hN]; exact hb.alloc hb.size _
  have B4 : Hid (Below w.heap.size w w4) := B3.out.trans (hc.mono (by omega))
  have R4 := Lib.hid (R3.out.below hc (by omega))
  have q0 : w4.cell? ⟨v2.heap.size, 0, none⟩ = some (.int .i64 F2) := by rw [← hN, World.cell?_alloc_new]; rfl
  have q1 : w4.cell? ⟨v2.heap.size, 1, none⟩ = some (.int .i64 L2) := by rw [← hN, World.cell?_alloc_new]; rfl
  have K4 : Hid (_ ∧ _ ∧ _ ∧ _) := And.intro ((hc.cell (p := ⟨k, 0, none⟩) (World.block_lt_of_cell? _ _ K3.out.1)).trans K3.out.1) (And.intro ((hc.cell (p := ⟨k + 1, 0, none⟩) (World.block_lt_of_cell? _ _ K3.out.2.1)).trans K3.out.2.1) (And.intro ((hc.cell (p := ⟨j, 0, none⟩) (World.block_lt_of_cell? _ _ K3.out.2.2.1)).trans K3.out.2.2.1) ((hc.cell (p := ⟨j + 1, 0, none⟩) (World.block_lt_of_cell? _ _ K3.out.2.2.2)).trans K3.out.2.2.2)))
  clear hb hc
  clear q0 q1
  go_wp2_with fail
  try rw [hN]
  clear hN
  rw [rounds_succ]
  go_wp2_with fail
  refine (D3.out _ j (HT.out.below B4.out) K4.out.2.2.1 K4.out.2.2.2).mono ?_
  rintro e v3 ⟨rfl, hb⟩
  have z3 : w.heap.size < w4.heap.size := R4.out.1
  obtain ⟨w5, hN⟩ : ∃ V : World, v3.alloc (.cells #[.int .i64 F3, .int .i64 L3] 23) = V := ⟨_, rfl⟩
  have hc : Below w4.heap.size w4 w5 := by rw [← hN]; exact hb.alloc hb.size _
  have B5 : Hid (Below w.heap.size w w5) := B4.out.trans (hc.mono (by omega))
  have R5 := Lib.hid (R4.out.below hc (by omega))
  have q0 : w5.cell? ⟨v3.heap.size, 0, none⟩ = some (.int .i64 F3) := by rw [← hN, World.cell?_alloc_new]; rfl
  have q1 : w5.cell? ⟨v3.heap.size, 1, none⟩ = some (.int .i64 L3) := by rw [← hN, World.cell?_alloc_new]; rfl
  have K5 : Hid (_ ∧ _ ∧ _ ∧ _) := And.intro ((hc.cell (p := ⟨k, 0, none⟩) (World.block_lt_of_cell? _ _ K4.out.1)).trans K4.out.1) (And.intro ((hc.cell (p := ⟨k + 1, 0, none⟩) (World.block_lt_of_cell? _ _ K4.out.2.1)).trans K4.out.2.1) (And.intro ((hc.cell (p := ⟨j, 0, none⟩) (World.block_lt_of_cell? _ _ K4.out.2.2.1)).trans K4.out.2.2.1) ((hc.cell (p := ⟨j + 1, 0, none⟩) (World.block_lt_of_cell? _ _ K4.out.2.2.2)).trans K4.out.2.2.2)))
  clear hb hc
  have c0 := R5.out.cell 0 (by omega); have f0 := R5.out.frozen 0 (by omega)
  have c1 := R5.out.cell 1 (by omega); have f1 := R5.out.frozen 1 (by omega)
  go_wp2_with fail
  try rw [hN] at c0 c1
  try rw [hN]
  refine bodyPost_ret (by simp [results, Tryd.results26, go_sem, set20 c0, set21 c1] <;> rfl) rfl ⟨rfl, (B5.out.setCell (p := ⟨w.heap.size, 0, none⟩) (Nat.le_refl _) _).setCell (p := ⟨w.heap.size, 1, none⟩) (Nat.le_refl _) _⟩

set_option maxRecDepth 100000 in
set_option maxHeartbeats 8000000 in
theorem Parse_at4 (s : ByteArray) (F0 L0 E0 F1 L1 E1 F2 L2 E2 F3 L3 E3 F4 L4 E4 : Int) (w : World) (hT : Table w)
    (C0 : ∀ w, Table w → Calls Tryd.prog 60 #[.string s] w fun e w' => e = Ans F0 L0 E0 ∧ Below w.heap.size w w')
    (C1 : ∀ w, Table w → Calls Tryd.prog 61 #[.string s] w fun e w' => e = Ans F1 L1 E1 ∧ Below w.heap.size w w')
    (C2 : ∀ w k, Table w → w.cell? ⟨k, 0, none⟩ = some (.string beW) → w.cell? ⟨k + 1, 0, none⟩ = some (.func (.func 63) #[] #[]) → Calls Tryd.prog 77 #[.string s, .pointer (some ⟨k, 0, none⟩), .pointer (some ⟨k + 1, 0, none⟩)] w fun e w' => e = Ans F2 L2 E2 ∧ Below w.heap.size w w')
    (C3 : ∀ w k, Table w → w.cell? ⟨k, 0, none⟩ = some (.string afW) → w.cell? ⟨k + 1, 0, none⟩ = some (.func (.func 64) #[] #[]) → Calls Tryd.prog 77 #[.string s, .pointer (some ⟨k, 0, none⟩), .pointer (some ⟨k + 1, 0, none⟩)] w fun e w' => e = Ans F3 L3 E3 ∧ Below w.heap.size w w')
    (C4 : ∀ w, Table w → Calls Tryd.prog 65 #[.string s] w fun e w' => e = Ans F4 L4 E4 ∧ Below w.heap.size w w')
    (h0 : E0 = 3) (h1 : E1 = 3) (h2 : E2 = 3) (h3 : E3 = 3) (h4 : E4 ≠ 3) :
    Calls Tryd.prog 26 #[.string s] w fun e w' => e = Ans F4 L4 E4 ∧ Below w.heap.size w w' := by
  have HT := Lib.hid hT
  have hlt := hT.lt
  have D0 := Lib.hid C0
  have b0 : (E0 != 3) = false := by simp [h0]
  have D1 := Lib.hid C1
  have b1 : (E1 != 3) = false := by simp [h1]
  have D2 := Lib.hid C2
  have b2 : (E2 != 3) = false := by simp [h2]
  have D3 := Lib.hid C3
  have b3 : (E3 != 3) = false := by simp [h3]
  have D4 := Lib.hid C4
  have b4 : (E4 != 3) = true := by simp [h4]
  clear hT C0 h0 C1 h1 C2 h2 C3 h3 C4 h4
  go_enter Tryd.func26, Tryd.ntmps26
  go_wp2_with fail
  refine (readers_is _).mono ?_
  rintro e w1 ⟨k, j, rfl, k0, k1, j0, j1, hb1⟩
  have B1 : Hid (Below w.heap.size w w1) := ((Below.refl _ w).alloc (Nat.le_refl _) _).trans (hb1.mono (by simp))
  have R1 : Hid (HoldsN 2 w1 w.heap.size (fun i => [Value.int .i64 0, Value.int .i64 0].getD i undef)) := (HoldsN.new w [Value.int .i64 0, Value.int .i64 0] 23 2 rfl).below hb1 (by simp)
  have K1 : Hid (_ ∧ _ ∧ _ ∧ _) := And.intro k0 (And.intro k1 (And.intro j0 j1))
  clear hb1 k0 k1 j0 j1
  unfold wR
  have x0 := rx0 k j
  have x1 := rx1 k j
  have x2 := rx2 k j
  have x3 := rx3 k j
  have x4 := rx4 k j
  obtain ⟨A, hA⟩ : ∃ A, A = rsA k j := ⟨_, rfl⟩
  have hA' : #[Value.func (Fn.func 60) #[] #[], Value.func (Fn.func 61) #[] #[], Value.func (Fn.func 77) #[] #[Value.pointer (some ⟨k, 0, none⟩), Value.pointer (some ⟨k + 1, 0, none⟩)], Value.func (Fn.func 77) #[] #[Value.pointer (some ⟨j, 0, none⟩), Value.pointer (some ⟨j + 1, 0, none⟩)], Value.func (Fn.func 65) #[] #[]] = A := hA.symm
  rw [hA']
  rw [← hA] at x0 x1 x2 x3 x4
  clear hA hA'
  go_wp2_with fail
  refine wp_loop_rounds 7 ?_
  rw [rounds_succ]
  go_wp2_with fail
  refine (D0.out _ (HT.out.below B1.out)).mono ?_
  rintro e v0 ⟨rfl, hb⟩
  have z0 : w.heap.size < w1.heap.size := R1.out.1
  obtain ⟨w2, hN⟩ : ∃ V : World, v0.alloc (.cells #[.int .i64 F0, .int .i64 L0] 23) = V := ⟨_, rfl⟩
  have hc : Below w1.heap.size w1 w2 := by rw [← hN]; exact hb.alloc hb.size _
  have B2 : Hid (Below w.heap.size w w2) := B1.out.trans (hc.mono (by omega))
  have R2 := Lib.hid (R1.out.below hc (by omega))
  have q0 : w2.cell? ⟨v0.heap.size, 0, none⟩ = some (.int .i64 F0) := by rw [← hN, World.cell?_alloc_new]; rfl
  have q1 : w2.cell? ⟨v0.heap.size, 1, none⟩ = some (.int .i64 L0) := by rw [← hN, World.cell?_alloc_new]; rfl
  have K2 : Hid (_ ∧ _ ∧ _ ∧ _) := And.intro ((hc.cell (p := ⟨k, 0, none⟩) (World.block_lt_of_cell? _ _ K1.out.1)).trans K1.out.1) (And.intro ((hc.cell (p := ⟨k + 1, 0, none⟩) (World.block_lt_of_cell? _ _ K1.out.2.1)).trans K1.out.2.1) (And.intro ((hc.cell (p := ⟨j, 0, none⟩) (World.block_lt_of_cell? _ _ K1.out.2.2.1)).trans K1.out.2.2.1) ((hc.cell (p := ⟨j + 1, 0, none⟩) (World.block_lt_of_cell? _ _ K1.out.2.2.2)).trans K1.out.2.2.2)))
  clear hb hc
  clear q0 q1
  go_wp2_with fail
  try rw [hN]
  clear hN
  rw [rounds_succ]
  go_wp2_with fail
  refine (D1.out _ (HT.out.below B2.out)).mono ?_
  rintro e v1 ⟨rfl, hb⟩
  have z1 : w.heap.size < w2.heap.size := R2.out.1
  obtain ⟨w3, hN⟩ : ∃ V : World, v1.alloc (.cells #[.int .i64 F1, .int .i64 L1] 23) = V := ⟨_, rfl⟩
  have hc : Below w2.heap.size w2 w3 := by rw [← hN]; exact hb.alloc hb.size _
  have B3 : Hid (Below w.heap.size w w3) := B2.out.trans (hc.mono (by omega))
  have R3 := Lib.hid (R2.out.below hc (by omega))
  have q0 : w3.cell? ⟨v1.heap.size, 0, none⟩ = some (.int .i64 F1) := by rw [← hN, World.cell?_alloc_new]; rfl
  have q1 : w3.cell? ⟨v1.heap.size, 1, none⟩ = some (.int .i64 L1) := by rw [← hN, World.cell?_alloc_new]; rfl
  have K3 : Hid (_ ∧ _ ∧ _ ∧ _) := And.intro ((hc.cell (p := ⟨k, 0, none⟩) (World.block_lt_of_cell? _ _ K2.out.1)).trans K2.out.1) (And.intro ((hc.cell (p := ⟨k + 1, 0, none⟩) (World.block_lt_of_cell? _ _ K2.out.2.1)).trans K2.out.2.1) (And.intro ((hc.cell (p := ⟨j, 0, none⟩) (World.block_lt_of_cell? _ _ K2.out.2.2.1)).trans K2.out.2.2.1) ((hc.cell (p := ⟨j + 1, 0, none⟩) (World.block_lt_of_cell? _ _ K2.out.2.2.2)).trans K2.out.2.2.2)))
  clear hb hc
  clear q0 q1
  go_wp2_with fail
  try rw [hN]
  clear hN
  rw [rounds_succ]
  go_wp2_with fail
  refine (D2.out _ k (HT.out.below B3.out) K3.out.1 K3.out.2.1).mono ?_
  rintro e v2 ⟨rfl, hb⟩
  have z2 : w.heap.size < w3.heap.size := R3.out.1
  obtain ⟨w4, hN⟩ : ∃ V : World, v2.alloc (.cells #[.int .i64 F2, .int .i64 L2] 23) = V := ⟨_, rfl⟩
  have hc : Below w3.heap.size w3 w4 := by rw [← hN]; exact hb.alloc hb.size _
  have B4 : Hid (Below w.heap.size w w4) := B3.out.trans (hc.mono (by omega))
  have R4 := Lib.hid (R3.out.below hc (by omega))
  have q0 : w4.cell? ⟨v2.heap.size, 0, none⟩ = some (.int .i64 F2) := by rw [← hN, World.cell?_alloc_new]; rfl
  have q1 : w4.cell? ⟨v2.heap.size, 1, none⟩ = some (.int .i64 L2) := by rw [← hN, World.cell?_alloc_new]; rfl
  have K4 : Hid (_ ∧ _ ∧ _ ∧ _) := And.intro ((hc.cell (p := ⟨k, 0, none⟩) (World.block_lt_of_cell? _ _ K3.out.1)).trans K3.out.1) (And.intro ((hc.cell (p := ⟨k + 1, 0, none⟩) (World.block_lt_of_cell? _ _ K3.out.2.1)).trans K3.out.2.1) (And.intro ((hc.cell (p := ⟨j, 0, none⟩) (World.block_lt_of_cell? _ _ K3.out.2.2.1)).trans K3.out.2.2.1) ((hc.cell (p := ⟨j + 1, 0, none⟩) (World.block_lt_of_cell? _ _ K3.out.2.2.2)).trans K3.out.2.2.2)))
  clear hb hc
  clear q0 q1
  go_wp2_with fail
  try rw [hN]
  clear hN
  rw [rounds_succ]
  go_wp2_with fail
  refine (D3.out _ j (HT.out.below B4.out) K4.out.2.2.1 K4.out.2.2.2).mono ?_
  rintro e v3 ⟨rfl, hb⟩
  have z3 : w.heap.size < w4.heap.size := R4.out.1
  obtain ⟨w5, hN⟩ : ∃ V : World, v3.alloc (.cells #[.int .i64 F3, .int .i64 L3] 23) = V := ⟨_, rfl⟩
  have hc : Below w4.heap.size w4 w5 := by rw [← hN]; exact hb.alloc hb.size _
  have B5 : Hid (Below w.heap.size w w5) := B4.out.trans (hc.mono (by omega))
  have R5 := Lib.hid (R4.out.below hc (by omega))
  have q0 : w5.cell? ⟨v3.heap.size, 0, none⟩ = some (.int .i64 F3) := by rw [← hN, World.cell?_alloc_new]; rfl
  have q1 : w5.cell? ⟨v3.heap.size, 1, none⟩ = some (.int .i64 L3) := by rw [← hN, World.cell?_alloc_new]; rfl
  have K5 : Hid (_ ∧ _ ∧ _ ∧ _) := And.intro ((hc.cell (p := ⟨k, 0, none⟩) (World.block_lt_of_cell? _ _ K4.out.1)).trans K4.out.1) (And.intro ((hc.cell (p := ⟨k + 1, 0, none⟩) (World.block_lt_of_cell? _ _ K4.out.2.1)).trans K4.out.2.1) (And.intro ((hc.cell (p := ⟨j, 0, none⟩) (World.block_lt_of_cell? _ _ K4.out.2.2.1)).trans K4.out.2.2.1) ((hc.cell (p := ⟨j + 1, 0, none⟩) (World.block_lt_of_cell? _ _ K4.out.2.2.2)).trans K4.out.2.2.2)))
  clear hb hc
  clear q0 q1
  go_wp2_with fail
  try rw [hN]
  clear hN
  rw [rounds_succ]
  go_wp2_with fail
  refine (D4.out _ (HT.out.below B5.out)).mono ?_
  rintro e v4 ⟨rfl, hb⟩
  have z4 : w.heap.size < w5.heap.size := R5.out.1
  obtain ⟨w6, hN⟩ : ∃ V : World, v4.alloc (.cells #[.int .i64 F4, .int .i64 L4] 23) = V := ⟨_, rfl⟩
  have hc : Below w5.heap.size w5 w6 := by rw [← hN]; exact hb.alloc hb.size _
  have B6 : Hid (Below w.heap.size w w6) := B5.out.trans (hc.mono (by omega))
  have R6 := Lib.hid (R5.out.below hc (by omega))
  have q0 : w6.cell? ⟨v4.heap.size, 0, none⟩ = some (.int .i64 F4) := by rw [← hN, World.cell?_alloc_new]; rfl
  have q1 : w6.cell? ⟨v4.heap.size, 1, none⟩ = some (.int .i64 L4) := by rw [← hN, World.cell?_alloc_new]; rfl
  have K6 : Hid (_ ∧ _ ∧ _ ∧ _) := And.intro ((hc.cell (p := ⟨k, 0, none⟩) (World.block_lt_of_cell? _ _ K5.out.1)).trans K5.out.1) (And.intro ((hc.cell (p := ⟨k + 1, 0, none⟩) (World.block_lt_of_cell? _ _ K5.out.2.1)).trans K5.out.2.1) (And.intro ((hc.cell (p := ⟨j, 0, none⟩) (World.block_lt_of_cell? _ _ K5.out.2.2.1)).trans K5.out.2.2.1) ((hc.cell (p := ⟨j + 1, 0, none⟩) (World.block_lt_of_cell? _ _ K5.out.2.2.2)).trans K5.out.2.2.2)))
  clear hb hc
  have c0 := R6.out.cell 0 (by omega); have f0 := R6.out.frozen 0 (by omega)
  have c1 := R6.out.cell 1 (by omega); have f1 := R6.out.frozen 1 (by omega)
  go_wp2_with fail
  try rw [hN] at c0 c1
  try rw [hN]
  refine bodyPost_ret (by simp [results, Tryd.results26, go_sem, set20 c0, set21 c1] <;> rfl) rfl ⟨rfl, (B6.out.setCell (p := ⟨w.heap.size, 0, none⟩) (Nat.le_refl _) _).setCell (p := ⟨w.heap.size, 1, none⟩) (Nat.le_refl _) _⟩

set_option maxRecDepth 100000 in
set_option maxHeartbeats 8000000 in
theorem Parse_none (s : ByteArray) (F0 L0 E0 F1 L1 E1 F2 L2 E2 F3 L3 E3 F4 L4 E4 : Int) (w : World) (hT : Table w)
    (C0 : ∀ w, Table w → Calls Tryd.prog 60 #[.string s] w fun e w' => e = Ans F0 L0 E0 ∧ Below w.heap.size w w')
    (C1 : ∀ w, Table w → Calls Tryd.prog 61 #[.string s] w fun e w' => e = Ans F1 L1 E1 ∧ Below w.heap.size w w')
    (C2 : ∀ w k, Table w → w.cell? ⟨k, 0, none⟩ = some (.string beW) → w.cell? ⟨k + 1, 0, none⟩ = some (.func (.func 63) #[] #[]) → Calls Tryd.prog 77 #[.string s, .pointer (some ⟨k, 0, none⟩), .pointer (some ⟨k + 1, 0, none⟩)] w fun e w' => e = Ans F2 L2 E2 ∧ Below w.heap.size w w')
    (C3 : ∀ w k, Table w → w.cell? ⟨k, 0, none⟩ = some (.string afW) → w.cell? ⟨k + 1, 0, none⟩ = some (.func (.func 64) #[] #[]) → Calls Tryd.prog 77 #[.string s, .pointer (some ⟨k, 0, none⟩), .pointer (some ⟨k + 1, 0, none⟩)] w fun e w' => e = Ans F3 L3 E3 ∧ Below w.heap.size w w')
    (C4 : ∀ w, Table w → Calls Tryd.prog 65 #[.string s] w fun e w' => e = Ans F4 L4 E4 ∧ Below w.heap.size w w')
    (h0 : E0 = 3) (h1 : E1 = 3) (h2 : E2 = 3) (h3 : E3 = 3) (h4 : E4 = 3) :
    Calls Tryd.prog 26 #[.string s] w fun e w' => e = Ans 0 0 3 ∧ Below w.heap.size w w' := by
  have HT := Lib.hid hT
  have hlt := hT.lt
  have D0 := Lib.hid C0
  have b0 : (E0 != 3) = false := by simp [h0]
  have D1 := Lib.hid C1
  have b1 : (E1 != 3) = false := by simp [h1]
  have D2 := Lib.hid C2
  have b2 : (E2 != 3) = false := by simp [h2]
  have D3 := Lib.hid C3
  have b3 : (E3 != 3) = false := by simp [h3]
  have D4 := Lib.hid C4
  have b4 : (E4 != 3) = false := by simp [h4]
  clear hT C0 h0 C1 h1 C2 h2 C3 h3 C4 h4
  go_enter Tryd.func26, Tryd.ntmps26
  go_wp2_with fail
  refine (readers_is _).mono ?_
  rintro e w1 ⟨k, j, rfl, k0, k1, j0, j1, hb1⟩
  have B1 : Hid (Below w.heap.size w w1) := ((Below.refl _ w).alloc (Nat.le_refl _) _).trans (hb1.mono (by simp))
  have R1 : Hid (HoldsN 2 w1 w.heap.size (fun i => [Value.int .i64 0, Value.int .i64 0].getD i undef)) := (HoldsN.new w [Value.int .i64 0, Value.int .i64 0] 23 2 rfl).below hb1 (by simp)
  have K1 : Hid (_ ∧ _ ∧ _ ∧ _) := And.intro k0 (And.intro k1 (And.intro j0 j1))
  clear hb1 k0 k1 j0 j1
  unfold wR
  have x0 := rx0 k j
  have x1 := rx1 k j
  have x2 := rx2 k j
  have x3 := rx3 k j
  have x4 := rx4 k j
  obtain ⟨A, hA⟩ : ∃ A, A = rsA k j := ⟨_, rfl⟩
  have hA' : #[Value.func (Fn.func 60) #[] #[], Value.func (Fn.func 61) #[] #[], Value.func (Fn.func 77) #[] #[Value.pointer (some ⟨k, 0, none⟩), Value.pointer (some ⟨k + 1, 0, none⟩)], Value.func (Fn.func 77) #[] #[Value.pointer (some ⟨j, 0, none⟩), Value.pointer (some ⟨j + 1, 0, none⟩)], Value.func (Fn.func 65) #[] #[]] = A := hA.symm
  rw [hA']
  rw [← hA] at x0 x1 x2 x3 x4
  clear hA hA'
  go_wp2_with fail
  refine wp_loop_rounds 7 ?_
  rw [rounds_succ]
  go_wp2_with fail
  refine (D0.out _ (HT.out.below B1.out)).mono ?_
  rintro e v0 ⟨rfl, hb⟩
  have z0 : w.heap.size < w1.heap.size := R1.out.1
  obtain ⟨w2, hN⟩ : ∃ V : World, v0.alloc (.cells #[.int .i64 F0, .int .i64 L0] 23) = V := ⟨_, rfl⟩
  have hc : Below w1.heap.size w1 w2 := by rw [← hN]; exact hb.alloc hb.size _
  have B2 : Hid (Below w.heap.size w w2) := B1.out.trans (hc.mono (by omega))
  have R2 := Lib.hid (R1.out.below hc (by omega))
  have q0 : w2.cell? ⟨v0.heap.size, 0, none⟩ = some (.int .i64 F0) := by rw [← hN, World.cell?_alloc_new]; rfl
  have q1 : w2.cell? ⟨v0.heap.size, 1, none⟩ = some (.int .i64 L0) := by rw [← hN, World.cell?_alloc_new]; rfl
  have K2 : Hid (_ ∧ _ ∧ _ ∧ _) := And.intro ((hc.cell (p := ⟨k, 0, none⟩) (World.block_lt_of_cell? _ _ K1.out.1)).trans K1.out.1) (And.intro ((hc.cell (p := ⟨k + 1, 0, none⟩) (World.block_lt_of_cell? _ _ K1.out.2.1)).trans K1.out.2.1) (And.intro ((hc.cell (p := ⟨j, 0, none⟩) (World.block_lt_of_cell? _ _ K1.out.2.2.1)).trans K1.out.2.2.1) ((hc.cell (p := ⟨j + 1, 0, none⟩) (World.block_lt_of_cell? _ _ K1.out.2.2.2)).trans K1.out.2.2.2)))
  clear hb hc
  clear q0 q1
  go_wp2_with fail
  try rw [hN]
  clear hN
  rw [rounds_succ]
  go_wp2_with fail
  refine (D1.out _ (HT.out.below B2.out)).mono ?_
  rintro e v1 ⟨rfl, hb⟩
  have z1 : w.heap.size < w2.heap.size := R2.out.1
  obtain ⟨w3, hN⟩ : ∃ V : World, v1.alloc (.cells #[.int .i64 F1, .int .i64 L1] 23) = V := ⟨_, rfl⟩
  have hc : Below w2.heap.size w2 w3 := by rw [← hN]; exact hb.alloc hb.size _
  have B3 : Hid (Below w.heap.size w w3) := B2.out.trans (hc.mono (by omega))
  have R3 := Lib.hid (R2.out.below hc (by omega))
  have q0 : w3.cell? ⟨v1.heap.size, 0, none⟩ = some (.int .i64 F1) := by rw [← hN, World.cell?_alloc_new]; rfl
  have q1 : w3.cell? ⟨v1.heap.size, 1, none⟩ = some (.int .i64 L1) := by rw [← hN, World.cell?_alloc_new]; rfl
  have K3 : Hid (_ ∧ _ ∧ _ ∧ _) := And.intro ((hc.cell (p := ⟨k, 0, none⟩) (World.block_lt_of_cell? _ _ K2.out.1)).trans K2.out.1) (And.intro ((hc.cell (p := ⟨k + 1, 0, none⟩) (World.block_lt_of_cell? _ _ K2.out.2.1)).trans K2.out.2.1) (And.intro ((hc.cell (p := ⟨j, 0, none⟩) (World.block_lt_of_cell? _ _ K2.out.2.2.1)).trans K2.out.2.2.1) ((hc.cell (p := ⟨j + 1, 0, none⟩) (World.block_lt_of_cell? _ _ K2.out.2.2.2)).trans K2.out.2.2.2)))
  clear hb hc
  clear q0 q1
  go_wp2_with fail
  try rw [hN]
  clear hN
  rw [rounds_succ]
  go_wp2_with fail
  refine (D2.out _ k (HT.out.below B3.out) K3.out.1 K3.out.2.1).mono ?_
  rintro e v2 ⟨rfl, hb⟩
  have z2 : w.heap.size < w3.heap.size := R3.out.1
  obtain ⟨w4, hN⟩ : ∃ V : World, v2.alloc (.cells #[.int .i64 F2, .int .i64 L2] 23) = V := ⟨_, rfl⟩
  have hc : Below w3.heap.size w3 w4 := by rw [← hN]; exact hb.alloc hb.size _
  have B4 : Hid (Below w.heap.size w w4) := B3.out.trans (hc.mono (by omega))
  have R4 := Lib.hid (R3.out.below hc (by omega))
  have q0 : w4.cell? ⟨v2.heap.size, 0, none⟩ = some (.int .i64 F2) := by rw [← hN, World.cell?_alloc_new]; rfl
  have q1 : w4.cell? ⟨v2.heap.size, 1, none⟩ = some (.int .i64 L2) := by rw [← hN, World.cell?_alloc_new]; rfl
  have K4 : Hid (_ ∧ _ ∧ _ ∧ _) := And.intro ((hc.cell (p := ⟨k, 0, none⟩) (World.block_lt_of_cell? _ _ K3.out.1)).trans K3.out.1) (And.intro ((hc.cell (p := ⟨k + 1, 0, none⟩) (World.block_lt_of_cell? _ _ K3.out.2.1)).trans K3.out.2.1) (And.intro ((hc.cell (p := ⟨j, 0, none⟩) (World.block_lt_of_cell? _ _ K3.out.2.2.1)).trans K3.out.2.2.1) ((hc.cell (p := ⟨j + 1, 0, none⟩) (World.block_lt_of_cell? _ _ K3.out.2.2.2)).trans K3.out.2.2.2)))
  clear hb hc
  clear q0 q1
  go_wp2_with fail
  try rw [hN]
  clear hN
  rw [rounds_succ]
  go_wp2_with fail
  refine (D3.out _ j (HT.out.below B4.out) K4.out.2.2.1 K4.out.2.2.2).mono ?_
  rintro e v3 ⟨rfl, hb⟩
  have z3 : w.heap.size < w4.heap.size := R4.out.1
  obtain ⟨w5, hN⟩ : ∃ V : World, v3.alloc (.cells #[.int .i64 F3, .int .i64 L3] 23) = V := ⟨_, rfl⟩
  have hc : Below w4.heap.size w4 w5 := by rw [← hN]; exact hb.alloc hb.size _
  have B5 : Hid (Below w.heap.size w w5) := B4.out.trans (hc.mono (by omega))
  have R5 := Lib.hid (R4.out.below hc (by omega))
  have q0 : w5.cell? ⟨v3.heap.size, 0, none⟩ = some (.int .i64 F3) := by rw [← hN, World.cell?_alloc_new]; rfl
  have q1 : w5.cell? ⟨v3.heap.size, 1, none⟩ = some (.int .i64 L3) := by rw [← hN, World.cell?_alloc_new]; rfl
  have K5 : Hid (_ ∧ _ ∧ _ ∧ _) := And.intro ((hc.cell (p := ⟨k, 0, none⟩) (World.block_lt_of_cell? _ _ K4.out.1)).trans K4.out.1) (And.intro ((hc.cell (p := ⟨k + 1, 0, none⟩) (World.block_lt_of_cell? _ _ K4.out.2.1)).trans K4.out.2.1) (And.intro ((hc.cell (p := ⟨j, 0, none⟩) (World.block_lt_of_cell? _ _ K4.out.2.2.1)).trans K4.out.2.2.1) ((hc.cell (p := ⟨j + 1, 0, none⟩) (World.block_lt_of_cell? _ _ K4.out.2.2.2)).trans K4.out.2.2.2)))
  clear hb hc
  clear q0 q1
  go_wp2_with fail
  try rw [hN]
  clear hN
  rw [rounds_succ]
  go_wp2_with fail
  refine (D4.out _ (HT.out.below B5.out)).mono ?_
  rintro e v4 ⟨rfl, hb⟩
  have z4 : w.heap.size < w5.heap.size := R5.out.1
  obtain ⟨w6, hN⟩ : ∃ V : World, v4.alloc (.cells #[.int .i64 F4, .int .i64 L4] 23) = V := ⟨_, rfl⟩
  have hc : Below w5.heap.size w5 w6 := by rw [← hN]; exact hb.alloc hb.size _
  have B6 : Hid (Below w.heap.size w w6) := B5.out.trans (hc.mono (by omega))
  have R6 := Lib.hid (R5.out.below hc (by omega))
  have q0 : w6.cell? ⟨v4.heap.size, 0, none⟩ = some (.int .i64 F4) := by rw [← hN, World.cell?_alloc_new]; rfl
  have q1 : w6.cell? ⟨v4.heap.size, 1, none⟩ = some (.int .i64 L4) := by rw [← hN, World.cell?_alloc_new]; rfl
  have K6 : Hid (_ ∧ _ ∧ _ ∧ _) := And.intro ((hc.cell (p := ⟨k, 0, none⟩) (World.block_lt_of_cell? _ _ K5.out.1)).trans K5.out.1) (And.intro ((hc.cell (p := ⟨k + 1, 0, none⟩) (World.block_lt_of_cell? _ _ K5.out.2.1)).trans K5.out.2.1) (And.intro ((hc.cell (p := ⟨j, 0, none⟩) (World.block_lt_of_cell? _ _ K5.out.2.2.1)).trans K5.out.2.2.1) ((hc.cell (p := ⟨j + 1, 0, none⟩) (World.block_lt_of_cell? _ _ K5.out.2.2.2)).trans K5.out.2.2.2)))
  clear hb hc
  clear q0 q1
  go_wp2_with fail
  try rw [hN]
  clear hN
  rw [rounds_succ]
  have c0 := R6.out.cell 0 (by omega); have f0 := R6.out.frozen 0 (by omega)
  have c1 := R6.out.cell 1 (by omega); have f1 := R6.out.frozen 1 (by omega)
  go_wp2_with fail
  refine bodyPost_ret (by simp [results, Tryd.results26, go_sem, set20 c0, set21 c1] <;> rfl) rfl ⟨rfl, (B6.out.setCell (p := ⟨w.heap.size, 0, none⟩) (Nat.le_refl _) _).setCell (p := ⟨w.heap.size, 1, none⟩) (Nat.le_refl _) _⟩

end Go.Proofs.YtjpiaccpcmlfnaaDoor
