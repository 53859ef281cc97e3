/-
  The parts of the natural order. No statement of the seat is proved here.
-/
import Derived.Test.YtbpoggdinefkeaaGreatDoorFr
import Derived.Test.YtbpoggdinefkeaaGreatDoorCn
namespace Go.Proofs.YtbpoggdinefkeaaGreatDoor
open Go Go.RowKit Go.Shelf

theorem isDigit_any (c : UInt8) (w : World) : Calls Tryz.prog 70 #[.int .u8 (c.toNat : Int)] w fun e w' => e = .returned (.bool (dig c)) ∧ w = w' := by
  have hc := UInt8.toNat_lt c
  go_enter Tryz.func70, Tryz.ntmps70
  go_wp2
  all_goals
    go_ret
    refine ⟨ret_bool ?_, rfl⟩
    unfold dig
    rw [Bool.eq_iff_iff]
    simp
    first | omega | skip

theorem tw_at (l : List UInt8) : ∀ k, k < (l.takeWhile dig).length → ∃ h : k < l.length, dig (l[k]) = true := by
  induction l with
  | nil => intro k h; simp at h
  | cons c l ih =>
    intro k h
    rw [List.takeWhile_cons] at h
    by_cases hc : dig c = true
    · rw [if_pos hc] at h
      cases k with
      | zero => exact ⟨by simp, by simpa using hc⟩
      | succ k =>
        obtain ⟨h1, h2⟩ := ih k (by simp at h; omega)
        exact ⟨by simp; omega, by simpa using h2⟩
    · rw [if_neg hc] at h; simp at h
theorem tw_end (l : List UInt8) : ∀ h : (l.takeWhile dig).length < l.length, dig (l[(l.takeWhile dig).length]) = false := by
  induction l with
  | nil => intro h; simp at h
  | cons c l ih =>
    intro h
    by_cases hc : dig c = true
    · have e : (List.takeWhile dig (c :: l)).length = (l.takeWhile dig).length + 1 := by rw [List.takeWhile_cons, if_pos hc]; simp
      simp only [e] at h ⊢
      simpa using ih (by simp at h; omega)
    · have e : (List.takeWhile dig (c :: l)).length = 0 := by rw [List.takeWhile_cons, if_neg hc]; simp
      simp only [e]
      simpa using hc
theorem tw_le (l : List UInt8) : (l.takeWhile dig).length ≤ l.length := (List.takeWhile_prefix dig).length_le

theorem at_bs2 (s : ByteArray) (k : Nat) (h : k < s.size) : s[k] = (bs s)[k]'(by rw [bs_len]; exact h) := by
  unfold bs; rfl

set_option maxRecDepth 100000 in
set_option maxHeartbeats 2000000 in
theorem firstPart_any (s : ByteArray) (w : World) (hs : s.size ≤ 10000000000000) : Calls Tryz.prog 50 #[.string s] w fun e w' => e = .returned (.string (s.extract 0 (firstP (bs s)).length)) ∧ w = w' := by
  obtain ⟨L, hL⟩ : ∃ L, L = ((bs s).takeWhile dig).length := ⟨_, rfl⟩
  have hle := tw_le (bs s)
  rw [← hL, bs_len] at hle
  have T1 : Hid (∀ k, k < L → ∃ h : k < s.size, dig s[k] = true) := by
    intro k hk
    rw [hL] at hk
    obtain ⟨h1, h2⟩ := tw_at (bs s) k hk
    rw [bs_len] at h1
    exact ⟨h1, by rw [at_bs2 s k h1]; exact h2⟩
  have T2 : Hid (∀ h : L < s.size, dig s[L] = false) := by
    intro h
    have := tw_end (bs s) (by rw [← hL, bs_len]; exact h)
    rw [at_bs2 s L h]
    simpa only [hL] using this
  have T3 : Hid (L ≠ 0 → (firstP (bs s)).length = L) := by
    intro h
    unfold firstP
    rw [if_neg (by intro e; rw [e] at hL; exact h (by simpa using hL)), hL]
  have T4 : Hid (L = 0 → (firstP (bs s)).length = min 1 s.size) := by
    intro h
    unfold firstP
    rw [if_pos (List.length_eq_zero_iff.1 (by omega)), List.length_take, bs_len]
  clear hL
  go_enter Tryz.func50, Tryz.ntmps50
  go_wp2
  go_loop [3] (fun n => ∃ k : Nat, k ≤ L ∧ n = .int .i64 k) (fun n => L - (intOf n).toNat)
  case atStart => exact ⟨0, Nat.zero_le _, rfl⟩
  case round =>
    obtain ⟨k, hk, rfl⟩ := hrel
    by_cases hlt : k < L
    · obtain ⟨h1, h2⟩ := T1.out k hlt
      have C := Lib.hid (isDigit_any s[k])
      rw [h2] at C
      clear h2
      go_wp2_with fail
      refine (C.out _).mono ?_
      rintro e w' ⟨rfl, rfl⟩
      go_wp2_with fail
      go_round
      case rel => exact ⟨k + 1, by omega, by go_num⟩
      case measure => simp [intOf]; omega
    · obtain rfl : k = L := by omega
      by_cases hz : k < s.size
      · have C := Lib.hid (isDigit_any s[k])
        rw [T2.out hz] at C
        by_cases h0 : k = 0
        · subst h0
          have PP := Lib.hid (show s.extract 0 (firstP (bs s)).length = s.extract 0 1 by rw [T4.out rfl, show min 1 s.size = 1 by omega])
          have ne : s.toList ≠ [] := by rw [tl]; intro e; have := bs_len s; rw [e] at this; simp at this; omega
          have ne1 : (s.toList == []) = false := by rw [beq_eq_false_iff_ne]; exact ne
          have ne2 : s.toList.isEmpty = false := by cases h : s.toList with | nil => exact absurd h ne | cons a b => rfl
          clear ne
          go_wp2_with fail
          refine (C.out _).mono ?_
          rintro e w' ⟨rfl, rfl⟩
          go_wp2_with fail
          go_ret
          rw [PP.out]
          exact ⟨rfl, rfl⟩
        · have PP := Lib.hid (show s.extract 0 (firstP (bs s)).length = s.extract 0 k by rw [T3.out h0])
          have k0 : ((k : Int) == 0) = false := by rw [beq_eq_false_iff_ne]; omega
          clear h0
          go_wp2_with fail
          refine (C.out _).mono ?_
          rintro e w' ⟨rfl, rfl⟩
          go_wp2_with fail
          go_ret
          rw [PP.out]
          exact ⟨rfl, rfl⟩
      · obtain rfl : k = s.size := by omega
        by_cases h0 : s.size = 0
        · have PP := Lib.hid (show s.extract 0 (firstP (bs s)).length = s.extract 0 0 by rw [T4.out h0, h0]; rfl)
          have ne0 : s.toList = [] := by rw [tl]; exact List.length_eq_zero_iff.1 (by rw [bs_len]; exact h0)
          have ne1 : (s.toList == []) = true := by rw [ne0]; rfl
          have ne2 : s.toList.isEmpty = true := by rw [ne0]; rfl
          go_wp2_with fail
          go_ret
          rw [PP.out]
          exact ⟨by simp, rfl⟩
        · have PP := Lib.hid (show s.extract 0 (firstP (bs s)).length = s by rw [T3.out h0]; simp)
          have k0 : ((s.size : Int) == 0) = false := by rw [beq_eq_false_iff_ne]; omega
          clear h0
          go_wp2_with fail
          go_ret
          rw [PP.out]
          exact ⟨rfl, rfl⟩

theorem kindOf_any (s : ByteArray) (w : World) : Calls Tryz.prog 51 #[.string s] w fun e w' => e = .returned (.int .i64 (kindOf (bs s))) ∧ w = w' := by
  by_cases h0 : s.size = 0
  · have e0 : bs s = [] := List.length_eq_zero_iff.1 (by rw [bs_len]; exact h0)
    have ne0 : s.toList = [] := by rw [tl]; exact e0
    have ne1 : (s.toList == []) = true := by rw [ne0]; rfl
    have ne2 : s.toList.isEmpty = true := by rw [ne0]; rfl
    have K := Lib.hid (show kindOf (bs s) = 0 by rw [e0]; rfl)
    clear e0
    go_enter Tryz.func51, Tryz.ntmps51
    go_wp2_with fail
    go_ret
    rw [K.out]
    exact ⟨rfl, rfl⟩
  · have hz : 0 < s.size := by omega
    have K : Hid (kindOf (bs s) = if dig s[0] then 1 else 2) := by
      have e := at_bs2 s 0 hz
      cases h : bs s with
      | nil => have := bs_len s; rw [h] at this; simp at this; omega
      | cons c l => simp only [h] at e; rw [show s[0] = c from e]; rfl
    have ne : s.toList ≠ [] := by rw [tl]; intro e; have := bs_len s; rw [e] at this; simp at this; omega
    have ne1 : (s.toList == []) = false := by rw [beq_eq_false_iff_ne]; exact ne
    have ne2 : s.toList.isEmpty = false := by cases h : s.toList with | nil => exact absurd h ne | cons a b => rfl
    have C := Lib.hid (isDigit_any s[0])
    clear ne h0
    cases hd : dig s[0] with
    | true =>
      rw [hd] at C K
      have K2 := Lib.hid (show kindOf (bs s) = 1 by rw [K.out]; rfl)
      clear hd
      go_enter Tryz.func51, Tryz.ntmps51
      go_wp2_with fail
      refine (C.out _).mono ?_
      rintro e w' ⟨rfl, rfl⟩
      go_wp2_with fail
      go_ret
      rw [K2.out]
      exact ⟨rfl, rfl⟩
    | false =>
      rw [hd] at C K
      have K2 := Lib.hid (show kindOf (bs s) = 2 by rw [K.out]; rfl)
      clear hd
      go_enter Tryz.func51, Tryz.ntmps51
      go_wp2_with fail
      refine (C.out _).mono ?_
      rintro e w' ⟨rfl, rfl⟩
      go_wp2_with fail
      go_ret
      rw [K2.out]
      exact ⟨rfl, rfl⟩

end Go.Proofs.YtbpoggdinefkeaaGreatDoor

