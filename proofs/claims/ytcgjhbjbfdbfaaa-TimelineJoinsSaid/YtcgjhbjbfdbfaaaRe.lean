/-
  What is left of a timeline from a day on, and its value on the day. No statement of the seat is proved here.
-/
import Derived.Test.YtcgjhbjbfdbfaaaKp
namespace Go.Proofs.Ytcgjhbjbfdbfaaa
open Go.RowKit

/-- A list from its piece r on. -/
def sh (f : Nat → Int) (r i : Nat) : Int := f (i + r)
def lenV : Value → Nat
  | .slice _ n _ => n
  | _ => 0

/-- Wherever the list lies, its pieces from k on lie there. -/
def Tails (p : Option Addr) (n : Nat) (F U V : Nat → Int) (k : Nat) (p' : Option Addr) : Prop := ∀ wz, PcsAt wz p n F U V → PcsAt wz p' (n - k) (sh F k) (sh U k) (sh V k)
theorem PcsAt.tail {wz : World} {blk off n k : Nat} {F U V : Nat → Int} (h : PcsAt wz (some ⟨blk, off, none⟩) (n - k) (sh F k) (sh U k) (sh V k)) (hk : k < n) : PcsAt wz (some ⟨blk, off + 3, none⟩) (n - (k + 1)) (sh F (k + 1)) (sh U (k + 1)) (sh V (k + 1)) := by
  rcases h with h | ⟨b', o', h1, h2⟩
  · omega
  · cases h1
    refine Or.inr ⟨blk, off + 3, rfl, fun i hi => ?_⟩
    have := h2 (i + 1) (by omega)
    unfold sh at this ⊢
    rw [show off + (i + 1) * 3 = off + 3 + i * 3 by omega, show i + 1 + k = i + (k + 1) by omega] at this
    exact this

set_option maxRecDepth 100000 in
set_option maxHeartbeats 4000000 in
theorem remaining_loop (p : Option Addr) (n cap r : Nat) (F U V : Nat → Int) (d : Int) (w : World) (hP : PcsAt w p n F U V) (hcap : n ≤ cap) (hr : r ≤ n) (hl : ∀ i, i < r → U i ≤ d) (hs : r = n ∨ (r < n ∧ d < U r)) :
    Calls Try.prog 52 #[.slice p n cap, .int .i64 d] w fun e w' => ∃ p' cap', e = .returned (.slice p' (n - r) cap') ∧ n - r ≤ cap' ∧ Tails p n F U V r p' ∧ Below w.heap.size w w' := by
  have HP := Lib.hid hP; have HL := Lib.hid hl; have HS := Lib.hid hs
  clear hP hl hs
  go_enter Try.func52, Try.ntmps52
  go_wp2
  go_loopw [0] (fun v wr => ∃ k : Nat, k ≤ r ∧ ∃ p' cap', v = .slice p' (n - k) cap' ∧ n - k ≤ cap' ∧ Tails p n F U V k p' ∧ Below w.heap.size w wr) (fun v _ => lenV v)
  case atStart => exact ⟨0, Nat.zero_le _, p, cap, rfl, hcap, fun _ h => h, by go_grown⟩
  case round =>
    obtain ⟨k, hk, p', cap', rfl, hc, hp, hb⟩ := hrel
    have NB := Lib.hid hb; have NP := Lib.hid hp
    by_cases hkn : k < n
    · obtain ⟨blk, off, rfl, hpc⟩ := (NP.out w HP.out).get (show 0 < n - k by omega)
      have PW : Hid (Pc wr blk off (F k) (U k) (V k)) := by
        have h := hpc.below hb hpc.lt
        rw [Nat.zero_mul, Nat.add_zero] at h
        unfold sh at h
        rw [Nat.zero_add] at h
        exact h
      have hkd : decide ((0 : Int) < ((n - k : Nat) : Int)) = true := by simp; omega
      have hk0 : (0 : Int) < ((n - k : Nat) : Int) := by omega
      have hk1 : (1 : Int) ≤ ((n - k : Nat) : Int) := by omega
      have hk2 : 1 ≤ n - k := by omega
      have hk3 : 0 < n - k := by omega
      have q1 := PW.out.2.1
      have zb := PW.out.lt
      clear hb hp hpc
      by_cases hu : U k ≤ d
      · have hkr : k < r := by
          rcases HS.out with h | h
          · omega
          · rcases (show k < r ∨ k = r by omega) with g | g
            · exact g
            · subst g; omega
        have e : decide (U k ≤ d) = true := decide_eq_true hu
        have hle : n - k - 1 = n - (k + 1) := by omega
        clear hu
        go_wp2_with fail
        go_roundw
        case rel =>
          refine ⟨k + 1, by omega, _, _, rfl, by omega, fun wz hz => ?_, NB.out⟩
          by_cases hc1 : cap' = 1
          · exact Or.inl (by omega)
          · rw [if_neg hc1]; exact (NP.out wz hz).tail hkn
        case measure => simp only [lenV]; omega
      · have hkr : k = r := by
          rcases (show k < r ∨ k = r by omega) with g | g
          · exact absurd (HL.out k g) hu
          · exact g
        subst hkr
        have e : decide (U k ≤ d) = false := decide_eq_false hu
        clear hu
        go_wp2_with fail
        go_ret
        exact ⟨_, _, rfl, hc, NP.out, NB.out⟩
    · obtain rfl : k = r := by omega
      have hz : n - k = 0 := by omega
      have hkd : decide ((0 : Int) < ((n - k : Nat) : Int)) = false := by simp; omega
      clear hb hp
      go_wp2_with fail
      go_ret
      exact ⟨_, _, by rw [hz]; rfl, hc, NP.out, NB.out⟩

/-- The first piece that has not ended by a day. -/
theorem rest_at (n : Nat) (U : Nat → Int) (d : Int) : ∃ r, r ≤ n ∧ (∀ i, i < r → U i ≤ d) ∧ (r = n ∨ (r < n ∧ d < U r)) := by
  obtain ⟨r, h1, h2, h3⟩ := first_bad (fun i => U i ≤ d) n
  refine ⟨r, h1, h2, ?_⟩
  rcases (show r = n ∨ r < n by omega) with k | k
  · exact Or.inl k
  · exact Or.inr ⟨k, by have := h3.resolve_left (by omega); omega⟩

set_option maxRecDepth 100000 in
set_option maxHeartbeats 4000000 in
/-- The value of the first piece, if it has the day; else none. -/
theorem firstAt_any (p : Option Addr) (n cap : Nat) (F U V : Nat → Int) (d A : Int) (O : Bool) (w : World) (hP : PcsAt w p n F U V) (hn : (n : Int) ≤ 4000) (hA : (0 < n ∧ F 0 ≤ d ∧ d < U 0 ∧ A = V 0 ∧ O = true) ∨ ((n = 0 ∨ ¬ (F 0 ≤ d ∧ d < U 0)) ∧ A = 0 ∧ O = false)) :
    Calls Try.prog 53 #[.slice p n cap, .int .i64 d] w fun e w' => e = .returned (.agg #[.int .i64 A, .bool O]) ∧ Below w.heap.size w w' := by
  have P0 := Lib.hid (hP.below ((Below.refl _ _).alloc (Nat.le_refl _) (.cells #[.int .i64 0, .bool false] 59)))
  have B0 : Hid (Below w.heap.size w (w.alloc (.cells #[.int .i64 0, .bool false] 59))) := (Below.refl _ _).alloc (Nat.le_refl _) _
  have H0 := Lib.hid (HoldsN.new w [.int .i64 0, .bool false] 59 2 rfl)
  rcases Nat.eq_zero_or_pos n with h0 | h0
  · subst h0
    obtain ⟨_, rfl, rfl⟩ := hA.resolve_left (by omega)
    clear hP
    go_enter Try.func53, Try.ntmps53
    go_wp2
    refine bodyPost_ret (by simp [results, Try.results53, go_sem] <;> rfl) rfl ⟨rfl, B0.out⟩
  · obtain ⟨blk, off, rfl, hpc⟩ := P0.out.get h0
    rw [Nat.zero_mul, Nat.add_zero] at hpc
    have PW := Lib.hid hpc
    have q0 := PW.out.1; have q1 := PW.out.2.1; have q2 := PW.out.2.2
    have zb := PW.out.lt
    have hk0 : (0 : Int) < (n : Int) := by omega
    have hkz : ((n : Int) == 0) = false := bool_ne (by omega)
    have hk1 : (1 : Int) ≤ (n : Int) := by omega
    have hk2 : 1 ≤ n := by omega
    clear hP hpc
    by_cases hin : F 0 ≤ d ∧ d < U 0
    · have e : decide (F 0 ≤ d ∧ d < U 0) = true := decide_eq_true hin
      obtain ⟨rfl, rfl⟩ : A = V 0 ∧ O = true := by
        rcases hA with h | h
        · exact ⟨h.2.2.2.1, h.2.2.2.2⟩
        · exact absurd (h.1.resolve_left (by omega)) (fun g => g hin)
      clear hin hA
      go_enter Try.func53, Try.ntmps53
      go_wp2_with fail
      refine (has_any _ _ _ _).mono ?_
      rintro e1 w1 ⟨rfl, hb⟩
      have PX := Lib.hid (PW.out.next hb)
      have r2 := PX.out.2.2
      have B1 := Lib.hid (B0.out.trans (hb.mono B0.out.size))
      have H1 := Lib.hid (H0.out.next hb)
      have t0 := H1.out.cell 0 (by omega); have t1 := H1.out.cell 1 (by omega)
      have f0 := H1.out.frozen 0 (by omega); have f1 := H1.out.frozen 1 (by omega)
      have H3 := Lib.hid ((H1.out.put 0 (by omega) (.int .i64 (V 0))).put 1 (by omega) (.bool true))
      have c0 := H3.out.cell 0 (by omega); have c1 := H3.out.cell 1 (by omega)
      simp only [Nat.zero_ne_one, if_false, if_true, Nat.one_ne_zero] at c0 c1
      clear hb q0 q1 q2
      rw [e]
      go_wp2_with fail
      refine bodyPost_ret (by simp [results, Try.results53, go_sem, c0, c1]) rfl ⟨rfl, (B1.out.setCell (Nat.le_refl _) _).setCell (Nat.le_refl _) _⟩
    · have e : decide (F 0 ≤ d ∧ d < U 0) = false := decide_eq_false hin
      obtain ⟨rfl, rfl⟩ : A = 0 ∧ O = false := by
        rcases hA with h | h
        · exact absurd ⟨h.2.1, h.2.2.1⟩ hin
        · exact h.2
      clear hin hA
      go_enter Try.func53, Try.ntmps53
      go_wp2_with fail
      refine (has_any _ _ _ _).mono ?_
      rintro e1 w1 ⟨rfl, hb⟩
      have B1 := Lib.hid (B0.out.trans (hb.mono B0.out.size))
      have H1 := Lib.hid (H0.out.next hb)
      have t0 := H1.out.cell 0 (by omega); have t1 := H1.out.cell 1 (by omega)
      have f0 := H1.out.frozen 0 (by omega); have f1 := H1.out.frozen 1 (by omega)
      have H3 := Lib.hid ((H1.out.put 0 (by omega) (.int .i64 0)).put 1 (by omega) (.bool false))
      have c0 := H3.out.cell 0 (by omega); have c1 := H3.out.cell 1 (by omega)
      simp only [Nat.zero_ne_one, if_false, if_true, Nat.one_ne_zero] at c0 c1
      clear hb q0 q1 q2
      rw [e]
      go_wp2_with fail
      refine bodyPost_ret (by simp [results, Try.results53, go_sem, c0, c1]) rfl ⟨rfl, (B1.out.setCell (Nat.le_refl _) _).setCell (Nat.le_refl _) _⟩

end Go.Proofs.Ytcgjhbjbfdbfaaa
