/-
  Same answers true for two lists of the same pieces. No statement of the seat is proved here.
-/
import Derived.Test.YtcgjhbjbfdbfaaaAw
namespace Go.Proofs.Ytcgjhbjbfdbfaaa
open Go.RowKit

theorem PcsAt.congr {w : World} {p : Option Addr} {n : Nat} {F U V F' U' V' : Nat → Int} (h : PcsAt w p n F U V) (he : ∀ i, i < n → F' i = F i ∧ U' i = U i ∧ V' i = V i) : PcsAt w p n F' U' V' := by
  rcases h with h | ⟨b, o, hp, h⟩
  · exact Or.inl h
  · refine Or.inr ⟨b, o, hp, fun i hi => ?_⟩
    rw [(he i hi).1, (he i hi).2.1, (he i hi).2.2]
    exact h i hi

set_option maxRecDepth 100000 in
set_option maxHeartbeats 4000000 in
theorem Same_eq (p q : Option Addr) (n cap cap' : Nat) (F U V F' U' V' : Nat → Int) (w : World) (hP : PcsAt w p n F U V) (hQ : PcsAt w q n F' U' V') (hn : (n : Int) ≤ 2000) (he : ∀ i, i < n → F i = F' i ∧ U i = U' i ∧ V i = V' i) :
    Calls Try.prog 24 #[.slice p n cap, .slice q n cap'] w fun e w' => e = .returned (.bool true) ∧ Below w.heap.size w w' := by
  have HP := Lib.hid hP; have HQ := Lib.hid (hQ.congr he)
  clear hP hQ he
  go_enter Try.func24, Try.ntmps24
  go_wp2
  go_loopw [5] (fun i wr => ∃ k : Nat, k ≤ n ∧ i = .int .i64 k ∧ Below w.heap.size w wr) (fun i _ => n - (intOf i).toNat)
  case atStart => exact ⟨0, Nat.zero_le _, rfl, by go_grown⟩
  case round =>
    obtain ⟨k, hk, rfl, hb⟩ := hrel
    have NB := Lib.hid hb
    by_cases hkn : k < n
    · obtain ⟨blk, off, rfl, hpc⟩ := HP.out.get hkn
      obtain ⟨blk2, off2, rfl, hpc2⟩ := HQ.out.get hkn
      have PW := Lib.hid (hpc.below hb hpc.lt)
      have QW := Lib.hid (hpc2.below hb hpc2.lt)
      have hkd : decide ((k : Int) < (n : Int)) = true := by simp; omega
      have hkz : (k : Int) < (n : Int) := by omega
      have q0 := PW.out.1; have q1 := PW.out.2.1; have q2 := PW.out.2.2
      have r0 := QW.out.1; have r1 := QW.out.2.1; have r2 := QW.out.2.2
      have zb := PW.out.lt; have zb2 := QW.out.lt
      clear hb hpc hpc2
      go_wp2_with fail
      go_quiet (fail)
      go_wp2_with fail
      go_roundw
      case rel => exact ⟨k + 1, by omega, by go_num, below_drewN NB.out nq⟩
      case measure => simp [intOf]; omega
    · have hkd : decide ((k : Int) < (n : Int)) = false := by simp; omega
      clear hb
      go_wp2
      go_ret
      exact ⟨rfl, NB.out⟩

end Go.Proofs.Ytcgjhbjbfdbfaaa
