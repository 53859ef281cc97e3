/-
  The example that every law of the seat checks first. No statement of the seat is proved here.
-/
import Derived.Test.YtbpoggdinefkeaaGreatDoorNm
namespace Go.Proofs.YtbpoggdinefkeaaGreatDoor
open Go Go.RowKit Go.Shelf

theorem it (n : Nat) (h : n < 1000) : Lib.itoa (n : Int) = dec3 n := itoa_dec3 h
theorem is_312_1 : Is (bs ⟨#[51, 46, 49, 50, 46, 49]⟩) [3, 12, 1] := by
  refine ⟨⟨by decide, by decide, by unfold GoodN; decide⟩, ?_⟩
  show _ = joinD [Lib.itoa ((3 : Nat) : Int), Lib.itoa ((12 : Nat) : Int), Lib.itoa ((1 : Nat) : Int)]
  rw [it 3 (by decide), it 12 (by decide), it 1 (by decide)]
  decide +kernel
theorem is_329 : Is (bs ⟨#[51, 46, 50, 46, 57]⟩) [3, 2, 9] := by
  refine ⟨⟨by decide, by decide, by unfold GoodN; decide⟩, ?_⟩
  show _ = joinD [Lib.itoa ((3 : Nat) : Int), Lib.itoa ((2 : Nat) : Int), Lib.itoa ((9 : Nat) : Int)]
  rw [it 3 (by decide), it 2 (by decide), it 9 (by decide)]
  decide +kernel
theorem is_31 : Is (bs ⟨#[51, 46, 49]⟩) [3, 1] := by
  refine ⟨⟨by decide, by decide, by unfold GoodN; decide⟩, ?_⟩
  show _ = joinD [Lib.itoa ((3 : Nat) : Int), Lib.itoa ((1 : Nat) : Int)]
  rw [it 3 (by decide), it 1 (by decide)]
  decide +kernel
theorem is_33 : Is (bs ⟨#[51, 46, 51]⟩) [3, 3] := by
  refine ⟨⟨by decide, by decide, by unfold GoodN; decide⟩, ?_⟩
  show _ = joinD [Lib.itoa ((3 : Nat) : Int), Lib.itoa ((3 : Nat) : Int)]
  rw [it 3 (by decide)]
  decide +kernel
theorem is_3 : Is (bs ⟨#[51]⟩) [3] := by
  refine ⟨⟨by decide, by decide, by unfold GoodN; decide⟩, ?_⟩
  show _ = joinD [Lib.itoa ((3 : Nat) : Int)]
  rw [it 3 (by decide)]
  decide +kernel
theorem tx_312 : textOf [3, 12] = [51, 46, 49, 50] := by
  show joinD [Lib.itoa ((3 : Nat) : Int), Lib.itoa ((12 : Nat) : Int)] = _
  rw [it 3 (by decide), it 12 (by decide)]
  decide +kernel
theorem tx_31 : textOf [3, 1] = [51, 46, 49] := by
  show joinD [Lib.itoa ((3 : Nat) : Int), Lib.itoa ((1 : Nat) : Int)] = _
  rw [it 3 (by decide), it 1 (by decide)]
  decide +kernel
theorem tx_32 : textOf [3, 2] = [51, 46, 50] := by
  show joinD [Lib.itoa ((3 : Nat) : Int), Lib.itoa ((2 : Nat) : Int)] = _
  rw [it 3 (by decide), it 2 (by decide)]
  decide +kernel
theorem nat_ex : nat (bs ⟨#[65, 32, 57]⟩) (bs ⟨#[65, 32, 49, 48]⟩) = -1 := by decide +kernel
theorem name_ex : nameB (bs ⟨#[65, 32, 57]⟩) = true := by decide +kernel

theorem parse_ex (w : World) (hE : Env w) : Calls Tryz.prog 23 #[.string ⟨#[51, 46, 49, 50, 46, 49]⟩] w fun e w' => ∃ b o c, e = .returned (.tuple #[.slice (some ⟨b, o, none⟩) 3 c, .int .i64 0]) ∧ (∀ j, j < 3 → w'.cell? ⟨b, o + j, none⟩ = some (.int .i64 ([3, 12, 1].getD j 0))) ∧ Below w.heap.size w w' := by
  refine (Parse_ok _ _ w hE is_312_1).mono ?_
  rintro e w' ⟨p, c, rfl, hr, hb⟩
  rcases intsAt_of_row hr with h | ⟨b, o, rfl, h⟩
  · cases h
  · exact ⟨b, o, c, rfl, h, hb⟩
theorem parent_ex (w : World) (hE : Env w) : Calls Tryz.prog 24 #[.string ⟨#[51, 46, 49, 50, 46, 49]⟩] w fun e w' => e = .returned (.tuple #[.string ⟨#[51, 46, 49, 50]⟩, .bool true]) ∧ Below w.heap.size w w' := by
  have := Parent_yes ⟨#[51, 46, 49, 50, 46, 49]⟩ [3, 12] 1 w hE (by decide) is_312_1
  rw [tx_312] at this
  exact this
theorem free_ex (b : Nat) (w : World) (hE : Env w) (h0 : w.cell? ⟨b, 0, none⟩ = some (.string ⟨#[51, 46, 49]⟩)) (h1 : w.cell? ⟨b, 1, none⟩ = some (.string ⟨#[51, 46, 51]⟩)) :
    Calls Tryz.prog 10 #[.slice (some ⟨b, 0, none⟩) 2 2, .string ⟨#[51]⟩] w fun e w' => e = .returned (.tuple #[.string ⟨#[51, 46, 50]⟩, .int .i64 0]) ∧ Below w.heap.size w w' := by
  refine Free_loop (some ⟨b, 0, none⟩) 2 2 2 [⟨#[51, 46, 49]⟩, ⟨#[51, 46, 51]⟩] ⟨#[51]⟩ ⟨#[51, 46, 50]⟩ 0 w hE rfl (by omega) (.inr ⟨b, 0, rfl, ?_⟩) ?_ (by decide) (Nat.le_refl _) ?_ (.inr ⟨rfl, .inr ⟨[3], .inr is_3, ?_⟩⟩)
  · intro j hj
    have : j = 0 ∨ j = 1 := by simp at hj; omega
    rcases this with rfl | rfl
    · exact h0
    · exact h1
  · intro x hx
    simp at hx
    rcases hx with rfl | rfl <;> decide
  · intro j hj
    rcases (show j = 0 ∨ j = 1 by omega) with rfl | rfl
    · exact ⟨_, is_31⟩
    · exact ⟨_, is_33⟩
  · intro w1 p cap bm nn hb hrow hset
    refine child_loop p 1 cap bm nn 2 [3] _ _ w w1 hE hb rfl (by omega) (by unfold GoodN; decide) hrow hset (by omega) (by omega) ?_ (.inr ⟨by omega, ?_, ?_⟩)
    · intro n h1 h2
      obtain rfl : n = 1 := by omega
      show textOf [3, 1] ∈ _
      rw [tx_31]; decide
    · show ¬ textOf [3, 2] ∈ _
      rw [tx_32]; decide
    · show _ = Value.tuple #[.string ⟨(textOf [3, 2]).toArray⟩, .int .i64 0]
      rw [tx_32]

set_option maxRecDepth 100000 in
set_option maxHeartbeats 8000000 in
theorem awake_true (w : World) (hE : Env w) : Calls Tryz.prog 6 #[] w fun e w' => e = .returned (.bool true) ∧ Below w.heap.size w w' := by
  have E0 := Lib.hid hE
  clear hE
  go_enter Tryz.func6, Tryz.ntmps6
  go_wp2_with fail
  refine (parse_ex _ E0.out).mono ?_
  rintro e w1 ⟨b, o, c, rfl, hc, hb⟩
  have C1 := Lib.hid hc; have B1 := Lib.hid hb
  clear hc hb
  go_wp2_with fail
  refine (parent_ex _ (E0.out.below B1.out)).mono ?_
  rintro e w2 ⟨rfl, hb⟩
  have C2 : Hid (∀ j, j < 3 → w2.cell? ⟨b, o + j, none⟩ = some (.int .i64 ([3, 12, 1].getD j 0))) := fun j hj => (hb.cell (p := ⟨b, o + j, none⟩) (World.block_lt_of_cell? w1 _ (C1.out j hj))).trans (C1.out j hj)
  have B2 := Lib.hid (B1.out.trans (hb.mono B1.out.size))
  clear hb C1
  go_wp2_with fail
  refine (Compare_ok _ _ _ _ _ (E0.out.below B2.out) is_312_1 is_329).mono ?_
  rintro e w3 ⟨rfl, hb⟩
  have C3 : Hid (∀ j, j < 3 → w3.cell? ⟨b, o + j, none⟩ = some (.int .i64 ([3, 12, 1].getD j 0))) := fun j hj => (hb.cell (p := ⟨b, o + j, none⟩) (World.block_lt_of_cell? w2 _ (C2.out j hj))).trans (C2.out j hj)
  have B3 := Lib.hid (B2.out.trans (hb.mono B2.out.size))
  clear hb C2
  rw [show cmpL [3, 12, 1] [3, 2, 9] = 1 by decide]
  go_wp2_with fail
  have B3' : Hid (Below w.heap.size w (w3.alloc (Obj.cells #[Value.string { data := #[51, 46, 49] }, Value.string { data := #[51, 46, 51] }] 9))) := B3.out.alloc B3.out.size _
  refine (free_ex w3.heap.size _ (E0.out.below B3'.out) (World.cell?_alloc_new w3 _ 9 0) (World.cell?_alloc_new w3 _ 9 1)).mono ?_
  rintro e w4 ⟨rfl, hb⟩
  have C4 : Hid (∀ j, j < 3 → w4.cell? ⟨b, o + j, none⟩ = some (.int .i64 ([3, 12, 1].getD j 0))) := fun j hj => by
    have z := World.block_lt_of_cell? w3 _ (C3.out j hj)
    have hb2 := ((Below.refl w3.heap.size w3).alloc (Nat.le_refl _) (Obj.cells #[Value.string { data := #[51, 46, 49] }, Value.string { data := #[51, 46, 51] }] 9)).trans (hb.mono (by simp))
    exact (hb2.cell (p := ⟨b, o + j, none⟩) z).trans (C3.out j hj)
  have B4 := Lib.hid (B3'.out.trans (hb.mono B3'.out.size))
  clear hb C3 B3 B3'
  have EQ := Lib.hid (Tryz.slices_Equal_int b o 3 c w4.heap.size 0 3 3 [3, 12, 1] [3, 12, 1] (w4.alloc (.cells #[.int .i64 3, .int .i64 12, .int .i64 1] 3)) (by decide) (by decide) (by decide) (by decide)
    (fun j hj => (World.cell?_alloc_lt w4 _ ⟨b, o + j, none⟩ (World.block_lt_of_cell? w4 _ (C4.out j hj))).trans (C4.out j hj))
    (fun j hj => by
      have : j = 0 ∨ j = 1 ∨ j = 2 := by simp at hj; omega
      rcases this with rfl | rfl | rfl
      · exact World.cell?_alloc_new w4 _ 3 0
      · exact World.cell?_alloc_new w4 _ 3 1
      · exact World.cell?_alloc_new w4 _ 3 2))
  rw [show (([3, 12, 1] : List Int).take 3 == ([3, 12, 1] : List Int).take 3) = true by decide] at EQ
  go_wp2_with fail
  refine EQ.out.mono ?_
  rintro e w5 ⟨rfl, q, rfl⟩
  have B5 := Lib.hid (below_drewN (B4.out.alloc B4.out.size (.cells #[.int .i64 3, .int .i64 12, .int .i64 1] 3)) q)
  obtain ⟨V, hV⟩ : ∃ V, V = (w4.alloc (.cells #[.int .i64 3, .int .i64 12, .int .i64 1] 3)).drewN q := ⟨_, rfl⟩
  rw [← hV] at B5 ⊢
  clear hV
  go_wp2_with fail
  refine (Natural_any _ _ _ (by decide) (by decide)).mono ?_
  rintro e w6 ⟨rfl, hb⟩
  have B6 := Lib.hid (B5.out.trans (hb.mono B5.out.size))
  clear hb
  rw [nat_ex]
  go_wp2_with fail
  refine (Within_ok _ _ _ _ _ (E0.out.below B6.out) is_31 is_3).mono ?_
  rintro e w7 ⟨rfl, hb⟩
  have B7 := Lib.hid (B6.out.trans (hb.mono B6.out.size))
  clear hb
  rw [show ([3] : List Int).isPrefixOf [3, 1] = true by decide]
  go_wp2_with fail
  refine (Name_any _ _ (E0.out.below B7.out) (by decide)).mono ?_
  rintro e w8 ⟨rfl, rfl⟩
  rw [name_ex]
  go_wp2_with fail
  go_ret
  exact ⟨rfl, B7.out⟩

end Go.Proofs.YtbpoggdinefkeaaGreatDoor
