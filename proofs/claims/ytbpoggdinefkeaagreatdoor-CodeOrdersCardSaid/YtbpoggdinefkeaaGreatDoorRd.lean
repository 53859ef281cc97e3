/-
  The reference's Decimal and part. No statement of the seat is proved here.
-/
import Derived.Test.YtbpoggdinefkeaaGreatDoorFo
import Derived.Deep.QuietTactic
import Derived.BigQuiet
namespace Go.Proofs.YtbpoggdinefkeaaGreatDoor
open Go Go.RowKit Go.Shelf

theorem digit_cut : ∀ d : Fin 10, (⟨#[48, 49, 50, 51, 52, 53, 54, 55, 56, 57]⟩ : ByteArray).extract d.val (d.val + 1) = ⟨#[UInt8.ofNat (48 + d.val)]⟩ := by decide +kernel

set_option maxRecDepth 100000 in
theorem Decimal_small (n : Nat) (w : World) (h : n < 10) : Calls Tryz.prog 21 #[.int .i64 n] w fun e w' => e = .returned (.string ⟨(Lib.decDigits n).toArray⟩) ∧ ∃ m, w' = w.drewN m := by
  have d1 : decide ((n : Int) < 10) = true := by rw [decide_eq_true_iff]; omega
  have e1 : (0 : Int) ≤ (n : Int) := by omega
  have e2 : (n : Int) ≤ (n : Int) + 1 := by omega
  have e3 : (n : Int) + 1 ≤ (10 : Int) := by omega
  have e4 : ((n : Int) + 1).toNat = n + 1 := by omega
  have e5 := digit_cut ⟨n, h⟩
  have e6 : Lib.decDigits n = [UInt8.ofNat (48 + n)] := Lib.decDigits_one h
  rw [e6]
  go_enter Tryz.func21, Tryz.ntmps21
  go_wp2_with fail
  go_ret
  exact ⟨rfl, 0, rfl⟩

theorem digits_len (n : Nat) : (Lib.decDigits n).length ≤ n + 1 := by
  induction n using Nat.strongRecOn with
  | ind n ih =>
    by_cases h : n < 10
    · rw [Lib.decDigits_one h]; simp
    · rw [Lib.decDigits, dif_neg h, List.length_append, List.length_singleton]
      have := ih (n / 10) (by omega)
      omega
/-- Two texts, one behind the other. -/
theorem add_texts (x y : List UInt8) (hx : x.length ≤ 2000000000) (hy : y.length ≤ 2000000000) (W : World) : (Op.stringOp .add ⟨x.toArray⟩ ⟨y.toArray⟩).run Tryz.prog W = .ok (.string ⟨(x ++ y).toArray⟩) W := by
  rw [run_string_add_sum W _ _ (by simp [ByteArray.size]; omega), ByteArray.mk_append_mk]

set_option maxRecDepth 100000 in
set_option maxHeartbeats 4000000 in
theorem Decimal_any : ∀ (k n : Nat) (w : World), n < 10 ^ k → n < 1000000000 → Calls Tryz.prog 21 #[.int .i64 n] w fun e w' => e = .returned (.string ⟨(Lib.decDigits n).toArray⟩) ∧ ∃ m, w' = w.drewN m := by
  intro k
  induction k with
  | zero =>
    intro n w h0 _
    exact Decimal_small n w (by simp at h0; omega)
  | succ k ih =>
    intro n w hn hb
    by_cases h : n < 10
    · exact Decimal_small n w h
    · have d1 : decide ((n : Int) < 10) = false := by rw [decide_eq_false_iff_not]; omega
      have IH := Lib.hid (fun w => ih (n / 10) w (by rw [Nat.pow_succ] at hn; omega) (by omega))
      have q1 : Int.tdiv (n : Int) 10 = ((n / 10 : Nat) : Int) := by rw [Int.tdiv_eq_ediv_of_nonneg (by omega)]; omega
      have q2 : Int.tmod (n : Int) 10 = ((n % 10 : Nat) : Int) := by rw [Int.tmod_eq_emod_of_nonneg (by omega)]; omega
      have hlt : n % 10 < 10 := Nat.mod_lt _ (by omega)
      obtain ⟨r, hr⟩ : ∃ r, r = n % 10 := ⟨_, rfl⟩
      obtain ⟨q, hq⟩ : ∃ q, q = n / 10 := ⟨_, rfl⟩
      have e6 : Lib.decDigits n = Lib.decDigits q ++ [UInt8.ofNat (48 + r)] := by rw [Lib.decDigits, dif_neg h, hr, hq]
      rw [← hr] at q2 hlt
      rw [← hq] at q1 IH
      have hq9 : q < 1000000000 := by omega
      clear hr hq
      have e0 : (0 : Int) ≤ (r : Int) := by omega
      have e2 : (r : Int) ≤ (r : Int) + 1 := by omega
      have e3 : (r : Int) + 1 ≤ (10 : Int) := by omega
      have e4 : ((r : Int) + 1).toNat = r + 1 := by omega
      have e5 := digit_cut ⟨r, hlt⟩
      have w2 : IntKind.i64.wrap (q : Int) = (q : Int) := IntWalk.i64_in _ (by omega)
      have w1 : IntKind.i64.wrap ((r : Int) + 1) = (r : Int) + 1 := IntWalk.i64_in _ (by omega)
      rw [e6]
      obtain ⟨D, hD⟩ : ∃ D, D = Lib.decDigits q := ⟨_, rfl⟩
      have hl : D.length ≤ 1000000001 := by rw [hD]; have := digits_len q; omega
      rw [← hD] at IH ⊢
      clear hD e6
      obtain ⟨u, hu⟩ : ∃ u, u = UInt8.ofNat (48 + r) := ⟨_, rfl⟩
      simp only [← hu] at e5
      rw [← hu]
      clear hu
      have ADD := add_texts D [u] (by omega) (by simp)
      have ADD2 : ∀ W : World, (Op.stringOp .add ⟨D.toArray⟩ ⟨#[u]⟩).run Tryz.prog W = .ok (.string ⟨(D ++ [u]).toArray⟩) W := ADD
      clear ADD
      go_enter Tryz.func21, Tryz.ntmps21
      go_wp2_with fail
      go_quiet (first | (go_at_call 21; refine Calls.quiet_of (IH.out _)))
      go_wp2_with fail
      go_ret
      exact ⟨rfl, _, rfl⟩

end Go.Proofs.YtbpoggdinefkeaaGreatDoor
