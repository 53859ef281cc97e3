/-
  The reference's next: the first bound behind a day. No statement of the seat is proved here.
-/
import Derived.Test.YtcgjhbjbfdbfaaaCg
import Derived.Test.YtcgjhbjbfdbfaaaCp
namespace Go.Proofs.Ytcgjhbjbfdbfaaa
open Go.RowKit

/-- The first bound of k pieces behind a day, or the end of time. -/
def NextOf (k : Nat) (F U : Nat → Int) (D N : Int) : Prop :=
  N ≤ 1048576 ∧ (∀ i, i < k → (D < F i → N ≤ F i) ∧ (D < U i → N ≤ U i)) ∧ (N = 1048576 ∨ (D < N ∧ ∃ i, i < k ∧ (N = F i ∨ N = U i)))
theorem NextOf.step {k : Nat} {F U : Nat → Int} {D N N1 N2 : Int} (h : NextOf k F U D N) (hF : F k ≤ 1048576) (hU : U k ≤ 1048576)
    (h1 : (D < F k ∧ (N ≤ F k ∧ N1 = N ∨ F k ≤ N ∧ N1 = F k)) ∨ (F k ≤ D ∧ N1 = N)) (h2 : (D < U k ∧ (N1 ≤ U k ∧ N2 = N1 ∨ U k ≤ N1 ∧ N2 = U k)) ∨ (U k ≤ D ∧ N2 = N1)) : NextOf (k + 1) F U D N2 := by
  obtain ⟨a, b, c⟩ := h
  have hle : N2 ≤ N := by clear b c; omega
  have key : N2 = N ∨ (N2 = F k ∧ D < N2) ∨ (N2 = U k ∧ D < N2) := by clear b c; omega
  have kF : D < F k → N2 ≤ F k := by clear b c key; omega
  have kU : D < U k → N2 ≤ U k := by clear b c key; omega
  refine ⟨by omega, fun i hi => ?_, ?_⟩
  · rcases (show i < k ∨ i = k by omega) with g | g
    · have := b i g; exact ⟨fun h => by have := this.1 h; omega, fun h => by have := this.2 h; omega⟩
    · subst g; exact ⟨kF, kU⟩
  · rcases key with g | ⟨g, g2⟩ | ⟨g, g2⟩
    · subst g
      rcases c with c | ⟨c, i, i1, i2⟩
      · exact Or.inl c
      · exact Or.inr ⟨c, i, by omega, i2⟩
    · exact Or.inr ⟨g2, k, by omega, Or.inl g⟩
    · exact Or.inr ⟨g2, k, by omega, Or.inr g⟩
theorem next_const {n : Nat} {F U V : Nat → Int} {D E d : Int} (h : ∀ i, i < n → (D < F i → E ≤ F i) ∧ (D < U i → E ≤ U i)) (h1 : D ≤ d) (h2 : d < E) (x : Int) : Has n F U V d x ↔ Has n F U V D x := by
  constructor
  · rintro ⟨i, i1, i2, i3, i4⟩
    have := h i i1
    refine ⟨i, i1, ?_, by omega, i4⟩
    apply Classical.byContradiction
    intro g
    have := this.1 (by omega)
    omega
  · rintro ⟨i, i1, i2, i3, i4⟩
    have := (h i i1).2 i3
    exact ⟨i, i1, by omega, by omega, i4⟩

set_option maxRecDepth 100000 in
set_option maxHeartbeats 4000000 in
theorem next_loop (p : Option Addr) (n cap : Nat) (F U V : Nat → Int) (D : Int) (w : World) (hP : PcsAt w p n F U V) (hn : (n : Int) ≤ 2000) (hW : Wk n F U) :
    Calls Try.prog 42 #[.slice p n cap, .int .i64 D] w fun e w' => ∃ N, e = .returned (.int .i64 N) ∧ NextOf n F U D N ∧ Below w.heap.size w w' := by
  have HP := Lib.hid hP; have HW := Lib.hid hW
  clear hP hW
  go_enter Try.func42, Try.ntmps42
  go_wp2
  go_loopw [5, 6] (fun o i wr => ∃ (k : Nat) (N : Int), k ≤ n ∧ i = .int .i64 k ∧ o = .int .i64 N ∧ NextOf k F U D N ∧ Below w.heap.size w wr) (fun _ i _ => n - (intOf i).toNat)
  case atStart => exact ⟨0, 1048576, Nat.zero_le _, rfl, rfl, ⟨Int.le_refl _, fun i hi => absurd hi (by omega), Or.inl rfl⟩, by go_grown⟩
  case round =>
    obtain ⟨k, N, hk, rfl, rfl, hN, hb⟩ := hrel
    have NB := Lib.hid hb; have NN := Lib.hid hN
    clear hN
    by_cases hkn : k < n
    · obtain ⟨blk, off, rfl, hpc⟩ := HP.out.get hkn
      have PW := Lib.hid (hpc.below hb hpc.lt)
      have hkd : decide ((k : Int) < (n : Int)) = true := by simp; omega
      have hkz : (k : Int) < (n : Int) := by omega
      have q0 := PW.out.1; have q1 := PW.out.2.1
      have zb := PW.out.lt
      have hs := HW.out.1 k hkn
      have SF : Hid (F k ≤ 1048576 ∧ U k ≤ 1048576) := ⟨by omega, by omega⟩
      clear hb hpc hs
      by_cases c1 : D < F k
      · have d1 : decide (F k > D) = true := decide_eq_true c1
        rcases (show N ≤ F k ∨ F k < N by omega) with m1 | m1
        · have t1 : min N (F k) = N := by omega
          by_cases c2 : D < U k
          · have d2 : decide (U k > D) = true := decide_eq_true c2
            rcases (show N ≤ U k ∨ U k < N by omega) with m2 | m2
            · have t2 : min N (U k) = N := by omega
              have ST := Lib.hid (NN.out.step (N1 := N) (N2 := N) SF.out.1 SF.out.2 (by omega) (by omega))
              go_wp2_with fail
              go_roundw
              case rel => exact ⟨k + 1, N, by omega, by go_num, by first | rfl | (simp only [Value.int.injEq, true_and]; omega) | (simp; omega), ST.out, NB.out⟩
              case measure => simp [intOf]; omega
            · have t2 : min N (U k) = U k := by omega
              have ST := Lib.hid (NN.out.step (N1 := N) (N2 := U k) SF.out.1 SF.out.2 (by omega) (by omega))
              go_wp2_with fail
              go_roundw
              case rel => exact ⟨k + 1, U k, by omega, by go_num, by first | rfl | (simp only [Value.int.injEq, true_and]; omega) | (simp; omega), ST.out, NB.out⟩
              case measure => simp [intOf]; omega
          · have d2 : decide (U k > D) = false := decide_eq_false (by omega)
            have ST := Lib.hid (NN.out.step (N1 := N) (N2 := N) SF.out.1 SF.out.2 (by omega) (by omega))
            go_wp2_with fail
            go_roundw
            case rel => exact ⟨k + 1, N, by omega, by go_num, by first | rfl | (simp only [Value.int.injEq, true_and]; omega) | (simp; omega), ST.out, NB.out⟩
            case measure => simp [intOf]; omega
        · have t1 : min N (F k) = F k := by omega
          by_cases c2 : D < U k
          · have d2 : decide (U k > D) = true := decide_eq_true c2
            rcases (show (F k) ≤ U k ∨ U k < (F k) by omega) with m2 | m2
            · have t2 : min (F k) (U k) = (F k) := by omega
              have ST := Lib.hid (NN.out.step (N1 := (F k)) (N2 := (F k)) SF.out.1 SF.out.2 (by omega) (by omega))
              go_wp2_with fail
              go_roundw
              case rel => exact ⟨k + 1, (F k), by omega, by go_num, by first | rfl | (simp only [Value.int.injEq, true_and]; omega) | (simp; omega), ST.out, NB.out⟩
              case measure => simp [intOf]; omega
            · have t2 : min (F k) (U k) = U k := by omega
              have ST := Lib.hid (NN.out.step (N1 := (F k)) (N2 := U k) SF.out.1 SF.out.2 (by omega) (by omega))
              go_wp2_with fail
              go_roundw
              case rel => exact ⟨k + 1, U k, by omega, by go_num, by first | rfl | (simp only [Value.int.injEq, true_and]; omega) | (simp; omega), ST.out, NB.out⟩
              case measure => simp [intOf]; omega
          · have d2 : decide (U k > D) = false := decide_eq_false (by omega)
            have ST := Lib.hid (NN.out.step (N1 := (F k)) (N2 := (F k)) SF.out.1 SF.out.2 (by omega) (by omega))
            go_wp2_with fail
            go_roundw
            case rel => exact ⟨k + 1, (F k), by omega, by go_num, by first | rfl | (simp only [Value.int.injEq, true_and]; omega) | (simp; omega), ST.out, NB.out⟩
            case measure => simp [intOf]; omega
      · have d1 : decide (F k > D) = false := decide_eq_false (by omega)
        have c1' : F k ≤ D := by omega
        by_cases c2 : D < U k
        · have d2 : decide (U k > D) = true := decide_eq_true c2
          rcases (show N ≤ U k ∨ U k < N by omega) with m2 | m2
          · have t2 : min N (U k) = N := by omega
            have ST := Lib.hid (NN.out.step (N1 := N) (N2 := N) SF.out.1 SF.out.2 (by omega) (by omega))
            go_wp2_with fail
            go_roundw
            case rel => exact ⟨k + 1, N, by omega, by go_num, by first | rfl | (simp only [Value.int.injEq, true_and]; omega) | (simp; omega), ST.out, NB.out⟩
            case measure => simp [intOf]; omega
          · have t2 : min N (U k) = U k := by omega
            have ST := Lib.hid (NN.out.step (N1 := N) (N2 := U k) SF.out.1 SF.out.2 (by omega) (by omega))
            go_wp2_with fail
            go_roundw
            case rel => exact ⟨k + 1, U k, by omega, by go_num, by first | rfl | (simp only [Value.int.injEq, true_and]; omega) | (simp; omega), ST.out, NB.out⟩
            case measure => simp [intOf]; omega
        · have d2 : decide (U k > D) = false := decide_eq_false (by omega)
          have ST := Lib.hid (NN.out.step (N1 := N) (N2 := N) SF.out.1 SF.out.2 (by omega) (by omega))
          go_wp2_with fail
          go_roundw
          case rel => exact ⟨k + 1, N, by omega, by go_num, by first | rfl | (simp only [Value.int.injEq, true_and]; omega) | (simp; omega), ST.out, NB.out⟩
          case measure => simp [intOf]; omega
    · have hkd : decide ((k : Int) < (n : Int)) = false := by simp; omega
      obtain rfl : k = n := by omega
      clear hb
      go_wp2
      go_ret
      exact ⟨_, rfl, NN.out, NB.out⟩

end Go.Proofs.Ytcgjhbjbfdbfaaa
