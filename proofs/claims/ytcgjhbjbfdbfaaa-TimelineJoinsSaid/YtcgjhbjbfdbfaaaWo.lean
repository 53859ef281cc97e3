/-
  What without stands on: limited, the closure that tells whether a piece begins in a span, and slices.IndexFunc with it. No statement of the seat is proved here.
-/
import Derived.Test.YtcgjhbjbfdbfaaaFd
namespace Go.Proofs.Ytcgjhbjbfdbfaaa
open Go.RowKit

set_option maxHeartbeats 1000000 in
theorem limited_any (p : Option Addr) (n cap : Nat) (w : World) :
    Calls Try.prog 36 #[.slice p n cap] w fun e w' => ((n : Int) ≤ 1024 → e = .returned (.tuple #[.slice p n cap, .int .i64 0])) ∧ (1024 < (n : Int) → e = .returned (.tuple #[.slice none 0 0, .int .i64 8])) ∧ Below w.heap.size w w' := by
  by_cases h : 1024 < (n : Int)
  · have e : decide ((n : Int) > 1024) = true := decide_eq_true h
    have H := Lib.hid h
    clear h
    go_enter Try.func36, Try.ntmps36
    go_wp2
    go_ret2
    exact ⟨fun k => absurd H.out (by omega), fun _ => rfl, by go_grown⟩
  · have e : decide ((n : Int) > 1024) = false := decide_eq_false h
    have H := Lib.hid h
    clear h
    go_enter Try.func36, Try.ntmps36
    go_wp2
    go_ret2
    exact ⟨fun _ => rfl, fun k => absurd k (by have := H.out; omega), by go_grown⟩

/-- A span in memory. -/
def SpanAt (w : World) (c : Nat) (a b : Int) : Prop := w.cell? ⟨c, 0, none⟩ = some (.int .i64 a) ∧ w.cell? ⟨c, 1, none⟩ = some (.int .i64 b)
theorem SpanAt.lt {w : World} {c : Nat} {a b : Int} (h : SpanAt w c a b) : c < w.heap.size := World.block_lt_of_cell? w _ h.1
theorem SpanAt.below {w w' : World} {B c : Nat} {a b : Int} (h : SpanAt w c a b) (hb : Below B w w') (hB : c < B) : SpanAt w' c a b :=
  ⟨(hb.cell (p := ⟨c, 0, none⟩) hB).trans h.1, (hb.cell (p := ⟨c, 1, none⟩) hB).trans h.2⟩

set_option maxHeartbeats 1000000 in
theorem without1_any (f u v a b : Int) (c : Nat) (w : World) (hS : SpanAt w c a b) :
    Calls Try.prog 46 #[.agg #[.int .i64 f, .int .i64 u, .int .i64 v], .pointer (some ⟨c, 0, none⟩)] w fun e w' => e = .returned (.bool (decide (a ≤ f ∧ f < b))) ∧ Below w.heap.size w w' := by
  have q0 := hS.1; have q1 := hS.2; have z := hS.lt
  clear hS
  go_enter Try.func46, Try.ntmps46
  go_wp2_with fail
  refine (has_any _ _ _ _).mono ?_
  rintro e w' ⟨rfl, hb⟩
  go_wp2
  go_ret
  exact ⟨ret_bool (Bool.decide_and _ _).symm, ((Below.refl _ _).alloc (Nat.le_refl _) _).trans (hb.mono (by simp))⟩

/-- A piece begins in a span. -/
abbrev begIn (F : Nat → Int) (a b : Int) (i : Nat) : Prop := a ≤ F i ∧ F i < b

set_option maxRecDepth 100000 in
set_option maxHeartbeats 4000000 in
/-- The pieces up to number m do not begin in the span; m is the end, or the first that does. -/
theorem IndexFunc_loop (p : Option Addr) (n cap m c : Nat) (F U V : Nat → Int) (a b : Int) (w : World) (hP : PcsAt w p n F U V) (hn : (n : Int) ≤ 1099511627776) (hS : SpanAt w c a b) (hm : m ≤ n)
    (hv : ∀ i : Nat, i < m → ¬ begIn F a b i) (A : Int) (hr : (m = n ∧ A = -1) ∨ (m < n ∧ begIn F a b m ∧ A = m)) :
    Calls Try.prog 54 #[.slice p n cap, .func (.func 46) #[] #[.pointer (some ⟨c, 0, none⟩)]] w fun e w' => e = .returned (.int .i64 A) ∧ Below w.heap.size w w' := by
  have HP := Lib.hid hP; have HV := Lib.hid hv; have HR := Lib.hid hr; have HS := Lib.hid hS
  clear hP hv hr hS
  go_enter Try.func54, Try.ntmps54
  go_wp2
  go_loopw [8] (fun i wr => ∃ k : Nat, k ≤ m ∧ i = .int .i64 k ∧ Below w.heap.size w wr) (fun i _ => n - (intOf i).toNat)
  case atStart => exact ⟨0, Nat.zero_le _, rfl, by go_grown⟩
  case round =>
    obtain ⟨k, hk, rfl, hb⟩ := hrel
    have NB := Lib.hid hb
    by_cases hkn : k < n
    · obtain ⟨blk, off, rfl, hpc⟩ := HP.out.get hkn
      have PW := Lib.hid (hpc.below hb hpc.lt)
      have SW := Lib.hid (HS.out.below hb HS.out.lt)
      have hkd : decide ((k : Int) < (n : Int)) = true := by simp; omega
      have q0 := PW.out.1; have q1 := PW.out.2.1; have q2 := PW.out.2.2
      have zb := PW.out.lt
      clear hb hpc
      by_cases hin : begIn F a b k
      · have e : decide (a ≤ F k ∧ F k < b) = true := decide_eq_true hin
        have hE : A = k := by
          rcases HR.out with h | h
          · exact absurd hin (HV.out k (by omega))
          · rcases (show k < m ∨ k = m by omega) with g | g
            · exact absurd hin (HV.out k g)
            · subst g; exact h.2.2
        subst hE
        clear hin
        go_wp2_with fail
        refine (without1_any _ _ _ a b c _ SW.out).mono ?_
        rintro e w' ⟨rfl, hb⟩
        have MB : Hid (Below w.heap.size w w') := NB.out.trans (hb.mono NB.out.size)
        clear hb
        rw [e]
        go_wp2
        go_ret
        exact ⟨rfl, MB.out⟩
      · have e : decide (a ≤ F k ∧ F k < b) = false := decide_eq_false hin
        have hkm : k < m := by
          rcases HR.out with h | h
          · omega
          · rcases (show k < m ∨ k = m by omega) with g | g
            · exact g
            · subst g; exact absurd h.2.1 hin
        clear hin
        go_wp2_with fail
        refine (without1_any _ _ _ a b c _ SW.out).mono ?_
        rintro e w' ⟨rfl, hb⟩
        have MB : Hid (Below w.heap.size w w') := NB.out.trans (hb.mono NB.out.size)
        clear hb
        rw [e]
        go_wp2
        go_roundw
        case rel => exact ⟨k + 1, by omega, by go_num, MB.out⟩
        case measure => simp [intOf]; omega
    · have hkd : decide ((k : Int) < (n : Int)) = false := by simp; omega
      have hE : A = -1 := by
        rcases HR.out with h | h
        · exact h.2
        · omega
      subst hE
      go_wp2
      go_ret
      exact ⟨rfl, NB.out⟩

end Go.Proofs.Ytcgjhbjbfdbfaaa
