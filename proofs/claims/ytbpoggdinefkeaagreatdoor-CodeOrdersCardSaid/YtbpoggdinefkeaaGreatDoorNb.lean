/-
  The comparison of two parts. No statement of the seat is proved here.
-/
import Derived.Test.YtbpoggdinefkeaaGreatDoorNa
import Derived.Test.YtbpoggdinefkeaaGreatDoorSi
namespace Go.Proofs.YtbpoggdinefkeaaGreatDoor
open Go Go.RowKit Go.Shelf

def orI (a b : Int) : Int := if a = 0 then b else a

set_option maxRecDepth 100000 in
set_option maxHeartbeats 2000000 in
theorem Or_two (b : Nat) (A B : Int) (w : World) (h0 : w.cell? ⟨b, 0, none⟩ = some (.int .i64 A)) (h1 : w.cell? ⟨b, 1, none⟩ = some (.int .i64 B)) :
    Calls Tryz.prog 53 #[.slice (some ⟨b, 0, none⟩) 2 2] w fun e w' => e = .returned (.int .i64 (orI A B)) ∧ w = w' := by
  go_enter Tryz.func53, Tryz.ntmps53
  go_wp2
  go_loop [8] (fun i => ∃ k : Nat, k ≤ 2 ∧ i = .int .i64 k ∧ (1 ≤ k → A = 0) ∧ (2 ≤ k → B = 0)) (fun i => 2 - (intOf i).toNat)
  case atStart => exact ⟨0, by omega, rfl, by omega, by omega⟩
  case round =>
    obtain ⟨k, hk, rfl, q1, q2⟩ := hrel
    rcases (show k = 0 ∨ k = 1 ∨ k = 2 by omega) with rfl | rfl | rfl
    · have Q := Lib.hid q1
      clear q1 q2
      by_cases hA : A = 0
      · have e : (A == 0) = true := by rw [beq_iff_eq]; exact hA
        have HA := Lib.hid hA
        clear hA
        go_wp2
        go_round
        case rel => exact ⟨1, by omega, by go_num, fun _ => HA.out, fun h => by omega⟩
        case measure => simp [intOf]
      · have e : (A == 0) = false := by rw [beq_eq_false_iff_ne]; exact hA
        have HA := Lib.hid (show orI A B = A by unfold orI; rw [if_neg hA])
        clear hA
        go_wp2
        go_ret
        rw [HA.out]
        exact ⟨rfl, rfl⟩
    · have Q := Lib.hid (q1 (by omega))
      clear q1 q2
      by_cases hA : B = 0
      · have e : (B == 0) = true := by rw [beq_iff_eq]; exact hA
        have HA := Lib.hid hA
        clear hA
        go_wp2
        go_round
        case rel => exact ⟨2, by omega, by go_num, fun _ => Q.out, fun _ => HA.out⟩
        case measure => simp [intOf]
      · have e : (B == 0) = false := by rw [beq_eq_false_iff_ne]; exact hA
        have HA := Lib.hid (show orI A B = B by unfold orI; rw [if_pos Q.out])
        clear hA
        go_wp2
        go_ret
        rw [HA.out]
        exact ⟨rfl, rfl⟩
    · have Q := Lib.hid (q1 (by omega))
      have Q2 := Lib.hid (q2 (by omega))
      clear q1 q2
      go_wp2
      go_ret
      have HA : orI A B = 0 := by unfold orI; rw [if_pos Q.out, Q2.out]
      rw [HA]
      exact ⟨rfl, rfl⟩

theorem cmpI_eq (x y : Int) : Lib.compareInt x y = cmpI x y := by unfold Lib.compareInt cmpI; rfl
theorem strip_eq (l : List UInt8) : Lib.trimLeftB l 48 = strip l := rfl

set_option maxRecDepth 100000 in
set_option maxHeartbeats 4000000 in
theorem parts_any (p q : ByteArray) (w : World) :
    Calls Tryz.prog 34 #[.string p, .string q] w fun e w' => e = .returned (.int .i64 (cmpP (bs p) (bs q))) ∧ Below w.heap.size w w' := by
  have K1 := Lib.hid (kindOf_any p); have K2 := Lib.hid (kindOf_any q)
  have C1 := Lib.hid (Tryz.cmp_Compare_int (kindOf (bs p)) (kindOf (bs q)))
  rw [cmpI_eq] at C1
  have T1 := Lib.hid (Tryz.strings_TrimLeft_one p 48 (by decide)); have T2 := Lib.hid (Tryz.strings_TrimLeft_one q 48 (by decide))
  rw [strip_eq] at T1 T2
  have RR : Hid (cmpP (bs p) (bs q) = if cmpI (kindOf (bs p)) (kindOf (bs q)) = 0 then orI (cmpI (strip (bs p)).length (strip (bs q)).length) (Lib.compareBytes (strip (bs p)) (strip (bs q))) else cmpI (kindOf (bs p)) (kindOf (bs q))) := by
    unfold cmpP thenC orI; rfl
  obtain ⟨k1, h1⟩ : ∃ k, k = kindOf (bs p) := ⟨_, rfl⟩
  obtain ⟨k2, h2⟩ : ∃ k, k = kindOf (bs q) := ⟨_, rfl⟩
  obtain ⟨s1, h3⟩ : ∃ k : ByteArray, k = ⟨(strip (bs p)).toArray⟩ := ⟨_, rfl⟩
  obtain ⟨s2, h4⟩ : ∃ k : ByteArray, k = ⟨(strip (bs q)).toArray⟩ := ⟨_, rfl⟩
  have e3 : strip (bs p) = bs s1 := by rw [h3]; simp [bs]
  have e4 : strip (bs q) = bs s2 := by rw [h4]; simp [bs]
  have T1' : Hid (∀ w, Calls Tryz.prog 52 #[.string p, .string ⟨#[48]⟩] w fun e w' => e = .returned (.string s1) ∧ w' = w) := by rw [h3]; exact T1.out
  have T2' : Hid (∀ w, Calls Tryz.prog 52 #[.string q, .string ⟨#[48]⟩] w fun e w' => e = .returned (.string s2) ∧ w' = w) := by rw [h4]; exact T2.out
  rw [e3, e4, bs_len, bs_len] at RR
  rw [← h1] at K1 C1 RR
  rw [← h2] at K2 C1 RR
  have C2 := Lib.hid (Tryz.cmp_Compare_int s1.size s2.size)
  rw [cmpI_eq] at C2
  have C3 : Hid (∀ w, Calls Tryz.prog 35 #[.string s1, .string s2] w fun e w' => e = .returned (.int .i64 (Lib.compareBytes (bs s1) (bs s2))) ∧ w' = w) := Tryz.strings_Compare s1 s2
  obtain ⟨A, hA⟩ : ∃ A, A = cmpI k1 k2 := ⟨_, rfl⟩
  obtain ⟨B, hB⟩ : ∃ B, B = cmpI (s1.size : Int) (s2.size : Int) := ⟨_, rfl⟩
  obtain ⟨C, hC⟩ : ∃ C, C = Lib.compareBytes (bs s1) (bs s2) := ⟨_, rfl⟩
  rw [← hA] at C1 RR
  rw [← hB] at C2 RR
  rw [← hC] at C3 RR
  clear T1 T2 h1 h2 h3 h4 e3 e4 hA hB hC
  by_cases h0 : A = 0
  · have a0 : (A == 0) = true := by rw [beq_iff_eq]; exact h0
    have R2 := Lib.hid (show cmpP (bs p) (bs q) = orI B C by rw [RR.out, if_pos h0])
    clear h0
    go_enter Tryz.func34, Tryz.ntmps34
    go_wp2_with fail
    refine (K1.out _).mono ?_
    rintro e w' ⟨rfl, rfl⟩
    go_wp2_with fail
    refine (K2.out _).mono ?_
    rintro e w' ⟨rfl, rfl⟩
    go_wp2_with fail
    refine (C1.out _).mono ?_
    rintro e w' ⟨rfl, rfl⟩
    go_wp2_with fail
    refine (T1'.out _).mono ?_
    rintro e w' ⟨rfl, rfl⟩
    go_wp2_with fail
    refine (T2'.out _).mono ?_
    rintro e w' ⟨rfl, rfl⟩
    go_wp2_with fail
    refine (C2.out _).mono ?_
    rintro e w' ⟨rfl, rfl⟩
    go_wp2_with fail
    refine (C3.out _).mono ?_
    rintro e w' ⟨rfl, rfl⟩
    go_wp2_with fail
    refine (Or_two w'.heap.size B C _ (World.cell?_alloc_new w' _ 3 0) (World.cell?_alloc_new w' _ 3 1)).mono ?_
    rintro e w2 ⟨rfl, rfl⟩
    go_wp2_with fail
    go_ret
    rw [R2.out]
    exact ⟨rfl, (Below.refl _ _).alloc (Nat.le_refl _) _⟩
  · have a0 : (A == 0) = false := by rw [beq_eq_false_iff_ne]; exact h0
    have a1 : (A != 0) = true := by rw [bne_iff_ne]; exact h0
    have R2 := Lib.hid (show cmpP (bs p) (bs q) = A by rw [RR.out, if_neg h0])
    clear h0
    go_enter Tryz.func34, Tryz.ntmps34
    go_wp2_with fail
    refine (K1.out _).mono ?_
    rintro e w' ⟨rfl, rfl⟩
    go_wp2_with fail
    refine (K2.out _).mono ?_
    rintro e w' ⟨rfl, rfl⟩
    go_wp2_with fail
    refine (C1.out _).mono ?_
    rintro e w' ⟨rfl, rfl⟩
    go_wp2_with fail
    go_ret
    rw [R2.out]
    exact ⟨rfl, Below.refl _ _⟩

end Go.Proofs.YtbpoggdinefkeaaGreatDoor
