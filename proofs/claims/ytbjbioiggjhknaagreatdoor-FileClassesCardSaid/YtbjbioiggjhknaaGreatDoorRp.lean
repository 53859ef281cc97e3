/-
  The reference's part, for any string. No statement of the seat is proved here.
-/
import Derived.Test.YtbjbioiggjhknaaGreatDoorNm
import Derived.Deep.QuietTactic
import Derived.BigQuiet
import Derived.Test.YtbjbioiggjhknaaGreatDoorFj
namespace Go.Proofs.YtbjbioiggjhknaaGreatDoor
open Go Go.RowKit Go.Shelf

def dig (c : UInt8) : Bool := decide (48 ≤ c.toNat) && decide (c.toNat ≤ 57)

/-- The value of a list of digits. -/
def dv (l : List UInt8) : Int := l.foldl (fun a c => 10 * a + ((c.toNat : Int) - 48)) 0
theorem dv_snoc (l : List UInt8) (c : UInt8) : dv (l ++ [c]) = 10 * dv l + ((c.toNat : Int) - 48) := by simp [dv]
theorem dv_take {l : List UInt8} {k : Nat} (h : k < l.length) : dv (l.take (k + 1)) = 10 * dv (l.take k) + ((l[k].toNat : Int) - 48) := by
  rw [List.take_succ_eq_append_getElem h, dv_snoc]
theorem dv_range {l : List UInt8} (hd : ∀ j (h : j < l.length), dig l[j] = true) : ∀ k, k ≤ l.length → 0 ≤ dv (l.take k) ∧ dv (l.take k) < 10 ^ k
  | 0, _ => by simp [dv]
  | k + 1, h => by
    have ih := dv_range hd k (by omega)
    have hk := hd k (by omega)
    unfold dig at hk
    simp at hk
    rw [dv_take (by omega), Int.pow_succ]
    omega

/-- When part finds a number. -/
def partOk (l : List UInt8) : Prop := 1 ≤ l.length ∧ l.length ≤ 3 ∧ l.getD 0 0 ≠ 48 ∧ ∀ j (h : j < l.length), dig l[j] = true

def fine (l : List UInt8) : Bool := decide (1 ≤ l.length) && decide (l.length ≤ 3) && (l.getD 0 0 != 48) && l.all dig
theorem fine_iff (l : List UInt8) : fine l = true ↔ partOk l := by
  unfold fine partOk
  simp only [Bool.and_eq_true, decide_eq_true_eq, bne_iff_ne, List.all_eq_true]
  constructor
  · rintro ⟨⟨⟨h1, h2⟩, h3⟩, h4⟩
    exact ⟨h1, h2, h3, fun j h => h4 _ (List.getElem_mem h)⟩
  · rintro ⟨h1, h2, h3, h4⟩
    exact ⟨⟨⟨h1, h2⟩, h3⟩, fun x hx => by obtain ⟨j, hj, rfl⟩ := List.getElem_of_mem hx; exact h4 j hj⟩
theorem fine_dec3 : ∀ k : Fin 1000, k.val = 0 ∨ fine (dec3 k.val) = true := by decide +kernel
theorem dv1 : ∀ a : Fin 10, a.val = 0 ∨ dec3 a.val = [UInt8.ofNat (48 + a.val)] := by decide +kernel
theorem dv2 : ∀ a b : Fin 10, a.val = 0 ∨ dec3 (10 * a.val + b.val) = [UInt8.ofNat (48 + a.val), UInt8.ofNat (48 + b.val)] := by decide +kernel
theorem dv3 : ∀ a b c : Fin 10, a.val = 0 ∨ dec3 (10 * (10 * a.val + b.val) + c.val) = [UInt8.ofNat (48 + a.val), UInt8.ofNat (48 + b.val), UInt8.ofNat (48 + c.val)] := by decide +kernel
theorem dig_of {c : UInt8} (h : dig c = true) : ∃ a : Fin 10, c = UInt8.ofNat (48 + a.val) ∧ (c.toNat : Int) - 48 = a.val := by
  unfold dig at h
  simp at h
  refine ⟨⟨c.toNat - 48, by omega⟩, ?_, by simp; omega⟩
  rw [← UInt8.toNat_inj]
  simp
  omega
theorem num_part {l : List UInt8} (h : partOk l) : numOf l = some (dv l) := by
  obtain ⟨h1, h2, h3, h4⟩ := h
  rw [numOf_some]
  match l, h1, h2, h3, h4 with
  | [x], _, _, h3, h4 =>
    obtain ⟨a, rfl, va⟩ := dig_of (h4 0 (by simp))
    simp only [List.getElem_cons_zero] at va
    have ha : a.val ≠ 0 := by intro e; rw [e] at h3; exact h3 rfl
    have e : dv [UInt8.ofNat (48 + a.val)] = (a.val : Int) := by simp only [dv, List.foldl_cons, List.foldl_nil]; omega
    rw [e]
    refine ⟨by omega, by omega, ?_⟩
    rw [itoa_dec3 (by omega)]
    exact ((dv1 a).resolve_left ha).symm
  | [x, y], _, _, h3, h4 =>
    obtain ⟨a, rfl, va⟩ := dig_of (h4 0 (by simp))
    obtain ⟨b, hb, vb⟩ := dig_of (h4 1 (by simp))
    simp only [List.getElem_cons_succ, List.getElem_cons_zero] at hb vb va
    subst hb
    have ha : a.val ≠ 0 := by intro e; rw [e] at h3; exact h3 rfl
    have e : dv [UInt8.ofNat (48 + a.val), UInt8.ofNat (48 + b.val)] = ((10 * a.val + b.val : Nat) : Int) := by simp only [dv, List.foldl_cons, List.foldl_nil]; omega
    rw [e]
    refine ⟨by omega, by omega, ?_⟩
    rw [itoa_dec3 (by omega)]
    exact ((dv2 a b).resolve_left ha).symm
  | [x, y, z], _, _, h3, h4 =>
    obtain ⟨a, rfl, va⟩ := dig_of (h4 0 (by simp))
    obtain ⟨b, hb, vb⟩ := dig_of (h4 1 (by simp))
    obtain ⟨c, hc, vc⟩ := dig_of (h4 2 (by simp))
    simp only [List.getElem_cons_succ, List.getElem_cons_zero] at hb vb va hc vc
    subst hb; subst hc
    have ha : a.val ≠ 0 := by intro e; rw [e] at h3; exact h3 rfl
    have e : dv [UInt8.ofNat (48 + a.val), UInt8.ofNat (48 + b.val), UInt8.ofNat (48 + c.val)] = ((10 * (10 * a.val + b.val) + c.val : Nat) : Int) := by simp only [dv, List.foldl_cons, List.foldl_nil]; omega
    rw [e]
    refine ⟨by omega, by omega, ?_⟩
    rw [itoa_dec3 (by omega)]
    exact ((dv3 a b c).resolve_left ha).symm
theorem num_none {l : List UInt8} (h : ¬ partOk l) : numOf l = none := by
  cases hn : numOf l with
  | none => rfl
  | some n =>
    exfalso
    obtain ⟨h1, h2, rfl⟩ := numOf_some.1 hn
    obtain ⟨k, rfl⟩ := Int.eq_ofNat_of_zero_le (show 0 ≤ n by omega)
    have hk : k < 1000 := by omega
    rw [itoa_dec3 hk] at h
    exact h ((fine_iff _).1 ((fine_dec3 ⟨k, hk⟩).resolve_left (by simp; omega)))

set_option maxRecDepth 100000 in
theorem part_early (s : ByteArray) (w : World) (h : s.size = 0 ∨ 3 < s.size ∨ (1 ≤ s.size ∧ s.size ≤ 3 ∧ (bs s).getD 0 0 = 48)) (hb : s.size ≤ 1000000000000) :
    Calls Tryz.prog 104 #[.string s] w fun e w' => e = .returned (.tuple #[.int .i64 0, .bool false]) ∧ w = w' := by
  rcases h with h | h | ⟨h1, h2, h3⟩
  · have d1 : decide ((s.size : Int) < 1) = true := by rw [decide_eq_true_iff]; omega
    go_enter Tryz.func104, Tryz.ntmps104
    go_wp2_with fail
    go_ret2
    exact ⟨rfl, rfl⟩
  · have d1 : decide ((s.size : Int) < 1) = false := by rw [decide_eq_false_iff_not]; omega
    have d2 : decide ((s.size : Int) > 3) = true := by rw [decide_eq_true_iff]; omega
    go_enter Tryz.func104, Tryz.ntmps104
    go_wp2_with fail
    go_ret2
    exact ⟨rfl, rfl⟩
  · have d1 : decide ((s.size : Int) < 1) = false := by rw [decide_eq_false_iff_not]; omega
    have d2 : decide ((s.size : Int) > 3) = false := by rw [decide_eq_false_iff_not]; omega
    have hp : 0 < s.size := by omega
    have e0 : s[0] = 48 := by
      rw [at_bs2 s 0 hp]
      have : 0 < (bs s).length := by rw [bs_len]; exact hp
      simpa [List.getD, this] using h3
    have e1 : ((s[0].toNat : Int) == 48) = true := by rw [e0]; rfl
    clear e0 h3
    go_enter Tryz.func104, Tryz.ntmps104
    go_wp2_with fail
    go_ret2
    exact ⟨rfl, rfl⟩

set_option maxRecDepth 100000 in
set_option maxHeartbeats 2000000 in
theorem part_loop (s : ByteArray) (w : World) (m : Nat) (N : Int) (B : Bool) (h1 : 1 ≤ s.size) (h2 : s.size ≤ 3) (h3 : (bs s).getD 0 0 ≠ 48) (hm : m ≤ s.size) (hd : ∀ j (h : j < s.size), j < m → dig s[j] = true)
    (hR : (∃ h : m < s.size, dig s[m] = false ∧ N = 0 ∧ B = false) ∨ (m = s.size ∧ N = dv (bs s) ∧ B = true)) :
    Calls Tryz.prog 104 #[.string s] w fun e w' => e = .returned (.tuple #[.int .i64 N, .bool B]) ∧ w = w' := by
  have d1 : decide ((s.size : Int) < 1) = false := by rw [decide_eq_false_iff_not]; omega
  have d2 : decide ((s.size : Int) > 3) = false := by rw [decide_eq_false_iff_not]; omega
  have hp : 0 < s.size := by omega
  have e0 : s[0] ≠ 48 := by
    rw [at_bs2 s 0 hp]
    have : 0 < (bs s).length := by rw [bs_len]; exact hp
    intro e
    exact h3 (by simpa [List.getD, this] using e)
  have e1 : ((s[0].toNat : Int) == 48) = false := by
    rw [beq_eq_false_iff_ne]; intro h; exact e0 (by rw [← UInt8.toNat_inj]; show s[0].toNat = 48; omega)
  have HD := Lib.hid hd; have HR := Lib.hid hR
  have ST : Hid (∀ k (h : k < s.size), dv ((bs s).take (k + 1)) = 10 * dv ((bs s).take k) + ((s[k].toNat : Int) - 48)) := by
    intro k h
    rw [at_bs2 s k h]
    exact dv_take (by rw [bs_len]; exact h)
  have RG : Hid (∀ k, k ≤ m → 0 ≤ dv ((bs s).take k) ∧ dv ((bs s).take k) < 1000) := by
    intro k hk
    have hk2 : k ≤ s.size := by omega
    have := dv_range (l := (bs s).take k) (fun j hj => by
      rw [List.length_take, bs_len] at hj
      rw [List.getElem_take, ← at_bs2 s j (by omega)]
      exact HD.out j (by omega) (by omega)) k (by rw [List.length_take, bs_len]; omega)
    rw [List.take_take, Nat.min_self] at this
    have hk3 : k ≤ 3 := by omega
    refine ⟨this.1, Int.lt_of_lt_of_le this.2 ?_⟩
    rcases (show k = 0 ∨ k = 1 ∨ k = 2 ∨ k = 3 by omega) with rfl | rfl | rfl | rfl <;> decide
  clear hd hR e0 h3
  go_enter Tryz.func104, Tryz.ntmps104
  go_wp2_with fail
  go_loop [4, 5] (fun n i => ∃ k : Nat, k ≤ m ∧ i = .int .i64 k ∧ n = .int .i64 (dv ((bs s).take k))) (fun _ i => s.size - (intOf i).toNat)
  case atStart => exact ⟨0, Nat.zero_le _, rfl, by simp [dv]⟩
  case round =>
    obtain ⟨k, hk, rfl, rfl⟩ := hrel
    by_cases hlt : k < s.size
    · by_cases hkm : k < m
      · have hc := HD.out k hlt hkm
        unfold dig at hc
        simp at hc
        have u1 : decide ((s[k].toNat : Int) < 48) = false := by rw [decide_eq_false_iff_not]; omega
        have u2 : decide ((s[k].toNat : Int) > 57) = false := by rw [decide_eq_false_iff_not]; omega
        have S1 := Lib.hid (ST.out k hlt)
        have r0 := RG.out k hk
        have r1 := RG.out (k + 1) hkm
        rw [S1.out] at r1
        obtain ⟨D, hD⟩ : ∃ D, D = dv ((bs s).take k) := ⟨_, rfl⟩
        rw [← hD] at S1 r0 r1 ⊢
        clear hD
        have w1 : IntKind.u8.wrap ((s[k].toNat : Int) - 48) = (s[k].toNat : Int) - 48 := IntWalk.u8_in _ (by omega)
        have w2 : IntKind.i64.wrap ((s[k].toNat : Int) - 48) = (s[k].toNat : Int) - 48 := IntWalk.i64_in _ (by omega)
        have w3 : IntKind.i64.wrap (10 * D) = 10 * D := IntWalk.i64_in _ (by omega)
        have w4 : IntKind.i64.wrap (10 * D + ((s[k].toNat : Int) - 48)) = 10 * D + ((s[k].toNat : Int) - 48) := IntWalk.i64_in _ (by omega)
        go_wp2_with fail
        go_round
        case rel => exact ⟨k + 1, hkm, by go_num, by rw [S1.out]⟩
        case measure => simp [intOf]; omega
      · obtain rfl : k = m := by omega
        have Q : Hid (dig s[k] = false ∧ N = 0 ∧ B = false) := by
          rcases HR.out with ⟨_, h⟩ | ⟨h, _⟩
          · exact h
          · omega
        have hc := Q.out.1
        unfold dig at hc
        simp at hc
        have hor : s[k].toNat < 48 ∨ 57 < s[k].toNat := by omega
        obtain rfl := Q.out.2.1
        obtain rfl := Q.out.2.2
        clear hc
        rcases hor with hc | hc
        · have u1 : decide ((s[k].toNat : Int) < 48) = true := by rw [decide_eq_true_iff]; omega
          go_wp2_with fail
          go_ret2
          exact ⟨rfl, rfl⟩
        · have u1 : decide ((s[k].toNat : Int) < 48) = false := by rw [decide_eq_false_iff_not]; omega
          have u2 : decide ((s[k].toNat : Int) > 57) = true := by rw [decide_eq_true_iff]; omega
          go_wp2_with fail
          go_ret2
          exact ⟨rfl, rfl⟩
    · obtain rfl : k = s.size := by omega
      obtain rfl : m = s.size := by omega
      have Q : Hid (N = dv ((bs s).take s.size) ∧ B = true) := by
        rw [List.take_of_length_le (by rw [bs_len]; exact Nat.le_refl _)]
        rcases HR.out with ⟨h, _⟩ | ⟨_, h⟩
        · omega
        · exact h
      rw [← Q.out.1]
      obtain rfl := Q.out.2
      go_wp2_with fail
      go_ret2
      exact ⟨rfl, rfl⟩

/-- part: the number, if the text is one. -/
theorem part_some (s : ByteArray) (n : Int) (w : World) (h : numOf (bs s) = some n) : Calls Tryz.prog 104 #[.string s] w fun e w' => e = .returned (.tuple #[.int .i64 n, .bool true]) ∧ w = w' := by
  by_cases hp : partOk (bs s)
  · rw [num_part hp] at h
    cases h
    obtain ⟨h1, h2, h3, h4⟩ := hp
    rw [bs_len] at h1 h2
    exact part_loop s w s.size _ true h1 h2 h3 (Nat.le_refl _) (fun j h _ => by rw [at_bs2 s j h]; exact h4 j (by rw [bs_len]; exact h)) (.inr ⟨rfl, rfl, rfl⟩)
  · rw [num_none hp] at h; cases h
theorem part_none (s : ByteArray) (w : World) (hb : s.size ≤ 1000000000000) (h : numOf (bs s) = none) : Calls Tryz.prog 104 #[.string s] w fun e w' => e = .returned (.tuple #[.int .i64 0, .bool false]) ∧ w = w' := by
  by_cases he : s.size = 0 ∨ 3 < s.size ∨ (1 ≤ s.size ∧ s.size ≤ 3 ∧ (bs s).getD 0 0 = 48)
  · exact part_early s w he hb
  have h1 : 1 ≤ s.size := by omega
  have h2 : s.size ≤ 3 := by omega
  have h3 : (bs s).getD 0 0 ≠ 48 := fun e => he (.inr (.inr ⟨h1, h2, e⟩))
  obtain ⟨m, m1, m2, m3⟩ := first_not (fun j => ∀ h : j < s.size, dig s[j] = true) s.size
  by_cases e : m = s.size
  · exfalso
    have hp : partOk (bs s) := ⟨by rw [bs_len]; exact h1, by rw [bs_len]; exact h2, h3, fun j hj => by
      rw [bs_len] at hj
      rw [← at_bs2 s j hj]
      exact m2 j (by omega) hj⟩
    rw [num_part hp] at h
    cases h
  · rcases m3 with m3 | m3
    · exact absurd m3 e
    have hlt : m < s.size := Nat.lt_of_le_of_ne m1 e
    have hc : dig (s[m]'hlt) = false := Bool.eq_false_iff.2 (fun hc => m3 (fun _ => hc))
    exact part_loop s w m 0 false h1 h2 h3 m1 (fun j h k => m2 j k h) (.inl ⟨hlt, hc, rfl, rfl⟩)

end Go.Proofs.YtbjbioiggjhknaaGreatDoor
