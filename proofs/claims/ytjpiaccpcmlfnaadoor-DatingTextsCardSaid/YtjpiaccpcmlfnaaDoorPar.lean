/-
  What Parse answers, out of what the five readers answer. No statement of the seat is proved here.
-/
import Derived.Test.YtjpiaccpcmlfnaaDoorRs
namespace Go.Proofs.YtjpiaccpcmlfnaaDoor
open Go.RowKit Cal

def beW : ByteArray := { data := #[98, 101, 102, 111, 114, 101, 32] }
def afW : ByteArray := { data := #[97, 102, 116, 101, 114, 32] }
def rsA (k j : Nat) : Array Value := #[.func (.func 60) #[] #[], .func (.func 61) #[] #[], .func (.func 77) #[] #[.pointer (some ⟨k, 0, none⟩), .pointer (some ⟨k + 1, 0, none⟩)], .func (.func 77) #[] #[.pointer (some ⟨j, 0, none⟩), .pointer (some ⟨j + 1, 0, none⟩)], .func (.func 65) #[] #[]]
theorem rx0 (k j : Nat) (w : World) : (Instr.index 58 (.agg (rsA k j)) (.int .i64 0)).run Tryd.prog w = .ok (.func (.func 60) #[] #[]) w := by kernel_rfl
theorem rx1 (k j : Nat) (w : World) : (Instr.index 58 (.agg (rsA k j)) (.int .i64 1)).run Tryd.prog w = .ok (.func (.func 61) #[] #[]) w := by kernel_rfl
theorem rx2 (k j : Nat) (w : World) : (Instr.index 58 (.agg (rsA k j)) (.int .i64 2)).run Tryd.prog w = .ok (.func (.func 77) #[] #[.pointer (some ⟨k, 0, none⟩), .pointer (some ⟨k + 1, 0, none⟩)]) w := by kernel_rfl
theorem rx3 (k j : Nat) (w : World) : (Instr.index 58 (.agg (rsA k j)) (.int .i64 3)).run Tryd.prog w = .ok (.func (.func 77) #[] #[.pointer (some ⟨j, 0, none⟩), .pointer (some ⟨j + 1, 0, none⟩)]) w := by kernel_rfl
theorem rx4 (k j : Nat) (w : World) : (Instr.index 58 (.agg (rsA k j)) (.int .i64 4)).run Tryd.prog w = .ok (.func (.func 65) #[] #[]) w := by kernel_rfl

/-- What a reader answers. -/
abbrev Ans (F L E : Int) : Ending := .returned (.tuple #[.agg #[.int .i64 F, .int .i64 L], .int .i64 E])
set_option maxHeartbeats 8000000 in
theorem Parse_at0 (s : ByteArray) (F0 L0 E0 : Int) (w : World) (hT : Table w)
    (C0 : ∀ w, Table w → Calls Tryd.prog 60 #[.string s] w fun e w' => e = Ans F0 L0 E0 ∧ Below w.heap.size w w')
    (h0 : E0 ≠ 3) :
    Calls Tryd.prog 26 #[.string s] w fun e w' => e = Ans F0 L0 E0 ∧ Below w.heap.size w w' := by
  have HT := Lib.hid hT
  have hlt := hT.lt
  have D0 := Lib.hid C0
  have b0 : (E0 != 3) = true := by simp [h0]
  clear hT C0 h0
  go_enter Tryd.func26, Tryd.ntmps26
  go_wp2_with fail
  refine (readers_is _).mono ?_
  rintro e w1 ⟨k, j, rfl, k0, k1, j0, j1, hb1⟩
  have B1 : Hid (Below w.heap.size w w1) := ((Below.refl _ w).alloc (Nat.le_refl _) _).trans (hb1.mono (by simp))
  have R1 : Hid (HoldsN 2 w1 w.heap.size (fun i => [Value.int .i64 0, Value.int .i64 0].getD i undef)) := (HoldsN.new w [Value.int .i64 0, Value.int .i64 0] 23 2 rfl).below hb1 (by simp)
  have K1 : Hid (_ ∧ _ ∧ _ ∧ _) := And.intro k0 (And.intro k1 (And.intro j0 j1))
  clear hb1 k0 k1 j0 j1
  unfold wR
  have x0 := rx0 k j
  obtain ⟨A, hA⟩ : ∃ A, A = rsA k j := ⟨_, rfl⟩
  have hA' : #[Value.func (Fn.func 60) #[] #[], Value.func (Fn.func 61) #[] #[], Value.func (Fn.func 77) #[] #[Value.pointer (some ⟨k, 0, none⟩), Value.pointer (some ⟨k + 1, 0, none⟩)], Value.func (Fn.func 77) #[] #[Value.pointer (some ⟨j, 0, none⟩), Value.pointer (some ⟨j + 1, 0, none⟩)], Value.func (Fn.func 65) #[] #[]] = A := hA.symm
  rw [hA']
  rw [← hA] at x0
  clear hA hA'
  go_wp2_with fail
  refine wp_loop_rounds 7 ?_
  rw [rounds_succ]
  go_wp2_with fail
  refine (D0.out _ (HT.out.below B1.out)).mono ?_
  rintro e v0 ⟨rfl, hb⟩
  have z0 : w.heap.size < w1.heap.size := R1.out.1
  obtain ⟨w2, hN⟩ : ∃ V : World, v0.alloc (.cells #[.int .i64 F0, .int .i64 L0] 23) = V := ⟨_, rfl⟩
  have hc : Below w1.heap.size w1 w2 := by rw [← hN]; exact hb.alloc hb.size _
  have B2 : Hid (Below w.heap.size w w2) := B1.out.trans (hc.mono (by omega))
  have R2 := Lib.hid (R1.out.below hc (by omega))
  have q0 : w2.cell? ⟨v0.heap.size, 0, none⟩ = some (.int .i64 F0) := by rw [← hN, World.cell?_alloc_new]; rfl
  have q1 : w2.cell? ⟨v0.heap.size, 1, none⟩ = some (.int .i64 L0) := by rw [← hN, World.cell?_alloc_new]; rfl
  have K2 : Hid (_ ∧ _ ∧ _ ∧ _) := And.intro ((hc.cell (p := ⟨k, 0, none⟩) (World.block_lt_of_cell? _ _ K1.out.1)).trans K1.out.1) (And.intro ((hc.cell (p := ⟨k + 1, 0, none⟩) (World.block_lt_of_cell? _ _ K1.out.2.1)).trans K1.out.2.1) (And.intro ((hc.cell (p := ⟨j, 0, none⟩) (World.block_lt_of_cell? _ _ K1.out.2.2.1)).trans K1.out.2.2.1) ((hc.cell (p := ⟨j + 1, 0, none⟩) (World.block_lt_of_cell? _ _ K1.out.2.2.2)).trans K1.out.2.2.2)))
  clear hb hc
  have c0 := R2.out.cell 0 (by omega); have f0 := R2.out.frozen 0 (by omega)
  have c1 := R2.out.cell 1 (by omega); have f1 := R2.out.frozen 1 (by omega)
  go_wp2_with fail
  try rw [hN] at c0 c1
  try rw [hN]
  refine bodyPost_ret (by simp [results, Tryd.results26, go_sem, set20 c0, set21 c1] <;> rfl) rfl ⟨rfl, (B2.out.setCell (p := ⟨w.heap.size, 0, none⟩) (Nat.le_refl _) _).setCell (p := ⟨w.heap.size, 1, none⟩) (Nat.le_refl _) _⟩

set_option maxHeartbeats 8000000 in
theorem Parse_at1 (s : ByteArray) (F0 L0 E0 F1 L1 E1 : Int) (w : World) (hT : Table w)
    (C0 : ∀ w, Table w → Calls Tryd.prog 60 #[.string s] w fun e w' => e = Ans F0 L0 E0 ∧ Below w.heap.size w w')
    (C1 : ∀ w, Table w → Calls Tryd.prog 61 #[.string s] w fun e w' => e = Ans F1 L1 E1 ∧ Below w.heap.size w w')
    (h0 : E0 = 3) (h1 : E1 ≠ 3) :
    Calls Tryd.prog 26 #[.string s] w fun e w' => e = Ans F1 L1 E1 ∧ Below w.heap.size w w' := by
  have HT := Lib.hid hT
  have hlt := hT.lt
  have D0 := Lib.hid C0
  have b0 : (E0 != 3) = false := by simp [h0]
  have D1 := Lib.hid C1
  have b1 : (E1 != 3) = true := by simp [h1]
  clear hT C0 h0 C1 h1
  go_enter Tryd.func26, Tryd.ntmps26
  go_wp2_with fail
  refine (readers_is _).mono ?_
  rintro e w1 ⟨k, j, rfl, k0, k1, j0, j1, hb1⟩
  have B1 : Hid (Below w.heap.size w w1) := ((Below.refl _ w).alloc (Nat.le_refl _) _).trans (hb1.mono (by simp))
  have R1 : Hid (HoldsN 2 w1 w.heap.size (fun i => [Value.int .i64 0, Value.int .i64 0].getD i undef)) := (HoldsN.new w [Value.int .i64 0, Value.int .i64 0] 23 2 rfl).below hb1 (by simp)
  have K1 : Hid (_ ∧ _ ∧ _ ∧ _) := And.intro k0 (And.intro k1 (And.intro j0 j1))
  clear hb1 k0 k1 j0 j1
  unfold wR
  have x0 := rx0 k j
  have x1 := rx1 k j
  obtain ⟨A, hA⟩ : ∃ A, A = rsA k j := ⟨_, rfl⟩
  have hA' : #[Value.func (Fn.func 60) #[] #[], Value.func (Fn.func 61) #[] #[], Value.func (Fn.func 77) #[] #[Value.pointer (some ⟨k, 0, none⟩), Value.pointer (some ⟨k + 1, 0, none⟩)], Value.func (Fn.func 77) #[] #[Value.pointer (some ⟨j, 0, none⟩), Value.pointer (some ⟨j + 1, 0, none⟩)], Value.func (Fn.func 65) #[] #[]] = A := hA.symm
  rw [hA']
  rw [← hA] at x0 x1
  clear hA hA'
  go_wp2_with fail
  refine wp_loop_rounds 7 ?_
  rw [rounds_succ]
  go_wp2_with fail
  refine (D0.out _ (HT.out.below B1.out)).mono ?_
  rintro e v0 ⟨rfl, hb⟩
  have z0 : w.heap.size < w1.heap.size := R1.out.1
  obtain ⟨w2, hN⟩ : ∃ V : World, v0.alloc (.cells #[.int .i64 F0, .int .i64 L0] 23) = V := ⟨_, rfl⟩
  have hc : Below w1.heap.size w1 w2 := by rw [← hN]; exact hb.alloc hb.size _
  have B2 : Hid (Below w.heap.size w w2) := B1.out.trans (hc.mono (by omega))
  have R2 := Lib.hid (R1.out.below hc (by omega))
  have q0 : w2.cell? ⟨v0.heap.size, 0, none⟩ = some (.int .i64 F0) := by rw [← hN, World.cell?_alloc_new]; rfl
  have q1 : w2.cell? ⟨v0.heap.size, 1, none⟩ = some (.int .i64 L0) := by rw [← hN, World.cell?_alloc_new]; rfl
  have K2 : Hid (_ ∧ _ ∧ _ ∧ _) := And.intro ((hc.cell (p := ⟨k, 0, none⟩) (World.block_lt_of_cell? _ _ K1.out.1)).trans K1.out.1) (And.intro ((hc.cell (p := ⟨k + 1, 0, none⟩) (World.block_lt_of_cell? _ _ K1.out.2.1)).trans K1.out.2.1) (And.intro ((hc.cell (p := ⟨j, 0, none⟩) (World.block_lt_of_cell? _ _ K1.out.2.2.1)).trans K1.out.2.2.1) ((hc.cell (p := ⟨j + 1, 0, none⟩) (World.block_lt_of_cell? _ _ K1.out.2.2.2)).trans K1.out.2.2.2)))
  clear hb hc
  clear q0 q1
  go_wp2_with fail
  try rw [hN]
  clear hN
  rw [rounds_succ]
  go_wp2_with fail
  refine (D1.out _ (HT.out.below B2.out)).mono ?_
  rintro e v1 ⟨rfl, hb⟩
  have z1 : w.heap.size < w2.heap.size := R2.out.1
  obtain ⟨w3, hN⟩ : ∃ V : World, v1.alloc (.cells #[.int .i64 F1, .int .i64 L1] 23) = V := ⟨_, rfl⟩
  have hc : Below w2.heap.size w2 w3 := by rw [← hN]; exact hb.alloc hb.size _
  have B3 : Hid (Below w.heap.size w w3) := B2.out.trans (hc.mono (by omega))
  have R3 := Lib.hid (R2.out.below hc (by omega))
  have q0 : w3.cell? ⟨v1.heap.size, 0, none⟩ = some (.int .i64 F1) := by rw [← hN, World.cell?_alloc_new]; rfl
  have q1 : w3.cell? ⟨v1.heap.size, 1, none⟩ = some (.int .i64 L1) := by rw [← hN, World.cell?_alloc_new]; rfl
  have K3 : Hid (_ ∧ _ ∧ _ ∧ _) := And.intro ((hc.cell (p := ⟨k, 0, none⟩) (World.block_lt_of_cell? _ _ K2.out.1)).trans K2.out.1) (And.intro ((hc.cell (p := ⟨k + 1, 0, none⟩) (World.block_lt_of_cell? _ _ K2.out.2.1)).trans K2.out.2.1) (And.intro ((hc.cell (p := ⟨j, 0, none⟩) (World.block_lt_of_cell? _ _ K2.out.2.2.1)).trans K2.out.2.2.1) ((hc.cell (p := ⟨j + 1, 0, none⟩) (World.block_lt_of_cell? _ _ K2.out.2.2.2)).trans K2.out.2.2.2)))
  clear hb hc
  have c0 := R3.out.cell 0 (by omega); have f0 := R3.out.frozen 0 (by omega)
  have c1 := R3.out.cell 1 (by omega); have f1 := R3.out.frozen 1 (by omega)
  go_wp2_with fail
  try rw [hN] at c0 c1
  try rw [hN]
  refine bodyPost_ret (by simp [results, Tryd.results26, go_sem, set20 c0, set21 c1] <;> rfl) rfl ⟨rfl, (B3.out.setCell (p := ⟨w.heap.size, 0, none⟩) (Nat.le_refl _) _).setCell (p := ⟨w.heap.size, 1, none⟩) (Nat.le_refl _) _⟩

end Go.Proofs.YtjpiaccpcmlfnaaDoor
