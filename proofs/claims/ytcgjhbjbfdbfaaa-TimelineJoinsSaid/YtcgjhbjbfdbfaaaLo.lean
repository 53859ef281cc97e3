/-
  PROVED HERE: the law archivumlaw04.TimelineLooks answers true for every list of pieces, days and value: Check, At, First and Days answer what the reference answers. No condition. Every input is spoken of.
-/
import Derived.Test.YtcgjhbjbfdbfaaaAw
import Derived.Test.YtcgjhbjbfdbfaaaKit
namespace Go.Proofs.Ytcgjhbjbfdbfaaa
open Go.RowKit

theorem Few_any (p : Option Addr) (n cap : Nat) (w : World) : Calls Try.prog 11 #[.slice p n cap] w fun e w' => e = .returned (.bool (decide (n ≤ 40 ∨ (1024 < n ∧ n ≤ 1034)))) ∧ Below w.heap.size w w' := by
  go_enter Try.func11, Try.ntmps11
  go_wp2
  all_goals
    go_ret
    refine ⟨ret_bool ?_, by go_grown⟩
    rw [Bool.eq_iff_iff]
    simp only [Bool.or_eq_true, Bool.and_eq_true, decide_eq_true_eq, true_iff]
    omega

/-- One answer of two functions at every world that holds the list. -/
def Both (f g : Nat) (args : Array Value) (p : Option Addr) (n : Nat) (F U V : Nat → Int) (r : Value) : Prop :=
  ∀ w, PcsAt w p n F U V → (Calls Try.prog f args w fun e w' => e = .returned r ∧ Below w.heap.size w w') ∧ Calls Try.prog g args w fun e w' => e = .returned r ∧ Below w.heap.size w w'
theorem At_both (p : Option Addr) (n cap : Nat) (F U V : Nat → Int) (d : Int) (hn : (n : Int) ≤ 2000) : ∃ A O, Both 12 13 #[.slice p n cap, .int .i64 d] p n F U V (.tuple #[.int .i64 A, .bool O]) := by
  obtain ⟨m, m1, m2, m3⟩ := first_bad (fun i => ¬ inP F U d i) n
  rcases (show m = n ∨ m < n by omega) with k | k
  · subst k
    exact ⟨0, false, fun w h => ⟨At_loop p m cap m F U V d w h (by omega) m1 m2 0 false (Or.inl ⟨rfl, rfl, rfl⟩), refAt_loop p m cap m F U V d w h (by omega) m1 m2 0 false (Or.inl ⟨rfl, rfl, rfl⟩)⟩⟩
  · have hM : inP F U d m := Classical.not_not.1 (m3.resolve_left (by omega))
    exact ⟨V m, true, fun w h => ⟨At_loop p n cap m F U V d w h (by omega) m1 m2 _ _ (Or.inr ⟨k, hM, rfl, rfl⟩), refAt_loop p n cap m F U V d w h (by omega) m1 m2 _ _ (Or.inr ⟨k, hM, rfl, rfl⟩)⟩⟩
theorem First_both (p : Option Addr) (n cap : Nat) (F U V : Nat → Int) (fr v : Int) : ∃ A O, Both 14 15 #[.slice p n cap, .int .i64 fr, .int .i64 v] p n F U V (.tuple #[.int .i64 A, .bool O]) := by
  obtain ⟨E, h1, h2, h3⟩ := check_both p n cap F U V
  by_cases hE : E = 0
  · subst hE
    have hn := (h3.1 rfl).1
    obtain ⟨m, m1, m2, m3⟩ := first_bad (fun i => ¬ (V i = v ∧ fr < U i)) n
    rcases (show m = n ∨ m < n by omega) with k | k
    · subst k
      exact ⟨0, false, fun w h => ⟨First_loop p m cap m F U V fr v w h hn m1 h1 m2 0 false (Or.inl ⟨rfl, rfl, rfl⟩), refFirst_loop p m cap m F U V fr v w h hn m1 h2 m2 0 false (Or.inl ⟨rfl, rfl, rfl⟩)⟩⟩
    · have hM : V m = v ∧ fr < U m := Classical.not_not.1 (m3.resolve_left (by omega))
      exact ⟨_, true, fun w h => ⟨First_loop p n cap m F U V fr v w h hn m1 h1 m2 _ _ (Or.inr ⟨k, hM, rfl, rfl⟩), refFirst_loop p n cap m F U V fr v w h hn m1 h2 m2 _ _ (Or.inr ⟨k, hM, rfl, rfl⟩)⟩⟩
  · exact ⟨0, false, fun w h => ⟨First_bad p n cap F U V fr v E w h hE h1, refFirst_bad p n cap F U V fr v E w h hE h2⟩⟩
theorem Days_both (p : Option Addr) (n cap : Nat) (F U V : Nat → Int) (v : Int) : ∃ A, Both 18 19 #[.slice p n cap, .int .i64 v] p n F U V (.int .i64 A) := by
  obtain ⟨E, h1, h2, h3⟩ := check_both p n cap F U V
  by_cases hE : E = 0
  · subst hE
    exact ⟨_, fun w h => ⟨Days_loop p n cap F U V v w h (h3.1 rfl) h1, refDays_loop p n cap F U V v w h (h3.1 rfl) h2⟩⟩
  · exact ⟨0, fun w h => ⟨Days_bad p n cap F U V v E w h hE h1, refDays_bad p n cap F U V v E w h hE h2⟩⟩
theorem Check_both (p : Option Addr) (n cap : Nat) (F U V : Nat → Int) : ∃ A, Both 16 17 #[.slice p n cap] p n F U V (.int .i64 A) := by
  obtain ⟨E, h1, h2, _⟩ := check_both p n cap F U V
  exact ⟨E, fun w h => ⟨h1 w h, h2 w h⟩⟩

set_option maxRecDepth 100000 in
set_option maxHeartbeats 8000000 in
theorem looks_law (p : Option Addr) (n cap : Nat) (F U V : Nat → Int) (d fr v : Int) (w : World) (hP : PcsAt w p n F U V) :
    Calls Try.prog 3 #[.slice p n cap, .int .i64 d, .int .i64 fr, .int .i64 v] w fun e w' => e = .returned (.bool true) ∧ Below w.heap.size w w' := by
  have P0 := Lib.hid hP
  clear hP
  by_cases hf : n ≤ 40 ∨ (1024 < n ∧ n ≤ 1034)
  · have e : decide (n ≤ 40 ∨ (1024 < n ∧ n ≤ 1034)) = true := decide_eq_true hf
    obtain ⟨A1, O1, h1⟩ := At_both p n cap F U V d (by omega)
    obtain ⟨A2, O2, h2⟩ := First_both p n cap F U V fr v
    obtain ⟨A3, h3⟩ := Days_both p n cap F U V v
    obtain ⟨A4, h4⟩ := Check_both p n cap F U V
    have C1 := Lib.hid h1; have C2 := Lib.hid h2; have C3 := Lib.hid h3; have C4 := Lib.hid h4
    clear h1 h2 h3 h4 hf
    go_enter Try.func3, Try.ntmps3
    go_wp2_with fail
    refine (awake_true _).mono ?_
    rintro e1 w1 ⟨rfl, hb⟩
    have P1 := Lib.hid (P0.out.below hb); have B1 := Lib.hid hb
    clear hb
    go_wp2_with fail
    refine (Few_any _ _ _ _).mono ?_
    rintro e1 w2 ⟨rfl, hb⟩
    have P2 := Lib.hid (P1.out.below hb); have B2 := Lib.hid (B1.out.trans (hb.mono B1.out.size))
    clear hb P1 B1
    rw [e]
    go_wp2_with fail
    refine (C1.out _ P2.out).1.mono ?_
    rintro e1 w3 ⟨rfl, hb⟩
    have P3 := Lib.hid (P2.out.below hb); have B3 := Lib.hid (B2.out.trans (hb.mono B2.out.size))
    clear hb P2 B2
    go_wp2_with fail
    refine (C1.out _ P3.out).2.mono ?_
    rintro e1 w4 ⟨rfl, hb⟩
    have P4 := Lib.hid (P3.out.below hb); have B4 := Lib.hid (B3.out.trans (hb.mono B3.out.size))
    clear hb P3 B3
    go_wp2_with fail
    refine (C2.out _ P4.out).1.mono ?_
    rintro e1 w5 ⟨rfl, hb⟩
    have P5 := Lib.hid (P4.out.below hb); have B5 := Lib.hid (B4.out.trans (hb.mono B4.out.size))
    clear hb P4 B4
    go_wp2_with fail
    refine (C2.out _ P5.out).2.mono ?_
    rintro e1 w6 ⟨rfl, hb⟩
    have P6 := Lib.hid (P5.out.below hb); have B6 := Lib.hid (B5.out.trans (hb.mono B5.out.size))
    clear hb P5 B5
    go_wp2_with fail
    refine (C4.out _ P6.out).1.mono ?_
    rintro e1 w7 ⟨rfl, hb⟩
    have P7 := Lib.hid (P6.out.below hb); have B7 := Lib.hid (B6.out.trans (hb.mono B6.out.size))
    clear hb P6 B6
    go_wp2_with fail
    refine (C4.out _ P7.out).2.mono ?_
    rintro e1 w8 ⟨rfl, hb⟩
    have P8 := Lib.hid (P7.out.below hb); have B8 := Lib.hid (B7.out.trans (hb.mono B7.out.size))
    clear hb P7 B7
    go_wp2_with fail
    refine (C3.out _ P8.out).1.mono ?_
    rintro e1 w9 ⟨rfl, hb⟩
    have P9 := Lib.hid (P8.out.below hb); have B9 := Lib.hid (B8.out.trans (hb.mono B8.out.size))
    clear hb P8 B8
    go_wp2_with fail
    refine (C3.out _ P9.out).2.mono ?_
    rintro e1 w10 ⟨rfl, hb⟩
    have B10 := Lib.hid (B9.out.trans (hb.mono B9.out.size))
    clear hb P9 B9
    go_wp2_with fail
    go_ret
    exact ⟨rfl, B10.out⟩
  · have e : decide (n ≤ 40 ∨ (1024 < n ∧ n ≤ 1034)) = false := decide_eq_false hf
    clear hf
    go_enter Try.func3, Try.ntmps3
    go_wp2_with fail
    refine (awake_true _).mono ?_
    rintro e1 w1 ⟨rfl, hb⟩
    have P1 := Lib.hid (P0.out.below hb); have B1 := Lib.hid hb
    clear hb
    go_wp2_with fail
    refine (Few_any _ _ _ _).mono ?_
    rintro e1 w2 ⟨rfl, hb⟩
    have B2 := Lib.hid (B1.out.trans (hb.mono B1.out.size))
    clear hb P1 B1
    rw [e]
    go_wp2_with fail
    go_ret
    exact ⟨rfl, B2.out⟩

theorem looks_said : Rows.TimelineLooksSaid := looks_of looks_law
#print axioms looks_said

end Go.Proofs.Ytcgjhbjbfdbfaaa
