/-
  What At, First and Days answer, in package timeline and in its reference. No statement of the seat is proved here.
-/
import Derived.Test.YtcgjhbjbfdbfaaaMem
namespace Go.Proofs.Ytcgjhbjbfdbfaaa
open Go.RowKit

/-- A piece has a day. -/
abbrev inP (F U : Nat → Int) (d : Int) (i : Nat) : Prop := F i ≤ d ∧ d < U i
theorem PcsAt.get {w : World} {p : Option Addr} {n : Nat} {F U V : Nat → Int} (h : PcsAt w p n F U V) {k : Nat} (hk : k < n) : ∃ blk off, p = some ⟨blk, off, none⟩ ∧ Pc w blk (off + k * 3) (F k) (U k) (V k) := by
  rcases h with h | ⟨blk, off, hp, h⟩
  · omega
  · exact ⟨blk, off, hp, h k hk⟩

set_option maxRecDepth 100000 in
set_option maxHeartbeats 4000000 in
/-- The pieces up to number m have not the day; m is the end, or the first that has it. -/
theorem At_loop (p : Option Addr) (n cap m : Nat) (F U V : Nat → Int) (d : Int) (w : World) (hP : PcsAt w p n F U V) (hn : (n : Int) ≤ 1099511627776) (hm : m ≤ n)
    (hv : ∀ i : Nat, i < m → ¬ inP F U d i) (A : Int) (O : Bool) (hr : (m = n ∧ A = 0 ∧ O = false) ∨ (m < n ∧ inP F U d m ∧ A = V m ∧ O = true)) :
    Calls Try.prog 12 #[.slice p n cap, .int .i64 d] w fun e w' => e = .returned (.tuple #[.int .i64 A, .bool O]) ∧ Below w.heap.size w w' := by
  have HP := Lib.hid hP; have HV := Lib.hid hv; have HR := Lib.hid hr
  clear hP hv hr
  go_enter Try.func12, Try.ntmps12
  go_wp2
  go_loopw [10] (fun i wr => ∃ k : Nat, k ≤ m ∧ i = .int .i64 k ∧ Below w.heap.size w wr) (fun i _ => n - (intOf i).toNat)
  case atStart => exact ⟨0, Nat.zero_le _, rfl, by go_grown⟩
  case round =>
    obtain ⟨k, hk, rfl, hb⟩ := hrel
    have NB := Lib.hid hb
    by_cases hkn : k < n
    · obtain ⟨blk, off, rfl, hpc⟩ := HP.out.get hkn
      have PW := Lib.hid (hpc.below hb hpc.lt)
      have hkd : decide ((k : Int) < (n : Int)) = true := by simp; omega
      have q0 := PW.out.1; have q1 := PW.out.2.1; have q2 := PW.out.2.2
      have zb := PW.out.lt
      clear hb hpc
      by_cases hin : inP F U d k
      · have e : decide (F k ≤ d ∧ d < U k) = true := decide_eq_true hin
        have hE : A = V k ∧ O = true := by
          rcases HR.out with h | h
          · exact absurd hin (HV.out k (by omega))
          · rcases (show k < m ∨ k = m by omega) with g | g
            · exact absurd hin (HV.out k g)
            · subst g; exact h.2.2
        obtain ⟨rfl, rfl⟩ := hE
        clear hin
        go_wp2_with fail
        refine (has_any _ _ _ _).mono ?_
        rintro e w' ⟨rfl, hb⟩
        have MB : Hid (Below w.heap.size w w') := (NB.out.alloc NB.out.size _).trans (hb.mono (by have := NB.out.size; simp; omega))
        have MP := Lib.hid ((Pc.new wr (F k) (U k) (V k) 47).next hb)
        clear hb q0 q1 q2
        have q0 := MP.out.1; have q1 := MP.out.2.1; have q2 := MP.out.2.2
        simp only [Nat.zero_add] at q1 q2
        have zb' := MP.out.lt
        rw [e]
        go_wp2
        go_ret2
        exact ⟨rfl, MB.out⟩
      · have e : decide (F k ≤ d ∧ d < U k) = false := decide_eq_false hin
        have hkm : k < m := by
          rcases HR.out with h | h
          · omega
          · rcases (show k < m ∨ k = m by omega) with g | g
            · exact g
            · subst g; exact absurd h.2.1 hin
        clear hin
        go_wp2_with fail
        refine (has_any _ _ _ _).mono ?_
        rintro e w' ⟨rfl, hb⟩
        have MB : Hid (Below w.heap.size w w') := (NB.out.alloc NB.out.size _).trans (hb.mono (by have := NB.out.size; simp; omega))
        clear hb
        rw [e]
        go_wp2
        go_roundw
        case rel => exact ⟨k + 1, by omega, by go_num, MB.out⟩
        case measure => simp [intOf]; omega
    · have hkd : decide ((k : Int) < (n : Int)) = false := by simp; omega
      have hE : A = 0 ∧ O = false := by
        rcases HR.out with h | h
        · exact h.2
        · omega
      obtain ⟨rfl, rfl⟩ := hE
      clear hb
      go_wp2
      go_ret2
      exact ⟨rfl, NB.out⟩

set_option maxRecDepth 100000 in
set_option maxHeartbeats 4000000 in
/-- The pieces up to number m have not the day; m is the end, or the first that has it. -/
theorem refAt_loop (p : Option Addr) (n cap m : Nat) (F U V : Nat → Int) (d : Int) (w : World) (hP : PcsAt w p n F U V) (hn : (n : Int) ≤ 1099511627776) (hm : m ≤ n)
    (hv : ∀ i : Nat, i < m → ¬ inP F U d i) (A : Int) (O : Bool) (hr : (m = n ∧ A = 0 ∧ O = false) ∨ (m < n ∧ inP F U d m ∧ A = V m ∧ O = true)) :
    Calls Try.prog 13 #[.slice p n cap, .int .i64 d] w fun e w' => e = .returned (.tuple #[.int .i64 A, .bool O]) ∧ Below w.heap.size w w' := by
  have HP := Lib.hid hP; have HV := Lib.hid hv; have HR := Lib.hid hr
  clear hP hv hr
  go_enter Try.func13, Try.ntmps13
  go_wp2
  go_loopw [6] (fun i wr => ∃ k : Nat, k ≤ m ∧ i = .int .i64 k ∧ Below w.heap.size w wr) (fun i _ => n - (intOf i).toNat)
  case atStart => exact ⟨0, Nat.zero_le _, rfl, by go_grown⟩
  case round =>
    obtain ⟨k, hk, rfl, hb⟩ := hrel
    have NB := Lib.hid hb
    by_cases hkn : k < n
    · obtain ⟨blk, off, rfl, hpc⟩ := HP.out.get hkn
      have PW := Lib.hid (hpc.below hb hpc.lt)
      have hkd : decide ((k : Int) < (n : Int)) = true := by simp; omega
      have q0 := PW.out.1; have q1 := PW.out.2.1; have q2 := PW.out.2.2
      have zb := PW.out.lt
      clear hb hpc
      by_cases hin : inP F U d k
      · have e : decide (F k ≤ d ∧ d < U k) = true := decide_eq_true hin
        have hE : A = V k ∧ O = true := by
          rcases HR.out with h | h
          · exact absurd hin (HV.out k (by omega))
          · rcases (show k < m ∨ k = m by omega) with g | g
            · exact absurd hin (HV.out k g)
            · subst g; exact h.2.2
        obtain ⟨rfl, rfl⟩ := hE
        clear hin
        go_wp2_with fail
        refine (In_any _ _ _ _).mono ?_
        rintro e w' ⟨rfl, hb⟩
        have MB : Hid (Below w.heap.size w w') := NB.out.trans (hb.mono NB.out.size)
        have MP := Lib.hid (PW.out.next hb)
        clear hb q0 q1 q2
        have q0 := MP.out.1; have q1 := MP.out.2.1; have q2 := MP.out.2.2
        have zb' := MP.out.lt
        rw [e]
        go_wp2
        go_ret2
        exact ⟨rfl, MB.out⟩
      · have e : decide (F k ≤ d ∧ d < U k) = false := decide_eq_false hin
        have hkm : k < m := by
          rcases HR.out with h | h
          · omega
          · rcases (show k < m ∨ k = m by omega) with g | g
            · exact g
            · subst g; exact absurd h.2.1 hin
        clear hin
        go_wp2_with fail
        refine (In_any _ _ _ _).mono ?_
        rintro e w' ⟨rfl, hb⟩
        have MB : Hid (Below w.heap.size w w') := NB.out.trans (hb.mono NB.out.size)
        clear hb
        rw [e]
        go_wp2
        go_roundw
        case rel => exact ⟨k + 1, by omega, by go_num, MB.out⟩
        case measure => simp [intOf]; omega
    · have hkd : decide ((k : Int) < (n : Int)) = false := by simp; omega
      have hE : A = 0 ∧ O = false := by
        rcases HR.out with h | h
        · exact h.2
        · omega
      obtain ⟨rfl, rfl⟩ := hE
      clear hb
      go_wp2
      go_ret2
      exact ⟨rfl, NB.out⟩

end Go.Proofs.Ytcgjhbjbfdbfaaa
