/-
  What the small functions of package dating and of its reference answer: Check, Before, Same, Meet. No statement of the seat is proved here.
-/
import Derived.Test.YtjpiaccpcmlfnaaDoorText
import Derived.BigQuiet
namespace Go.Proofs.YtjpiaccpcmlfnaaDoor
open Go.RowKit Cal

/-- A dating is valid. -/
abbrev okD (f l : Int) : Prop := 0 ≤ f ∧ f ≤ l ∧ l ≤ 1048575
def chk (f l : Int) : Int := if okD f l then 0 else 1
theorem chk_yes {f l : Int} (h : okD f l) : chk f l = 0 := if_pos h
theorem chk_no {f l : Int} (h : ¬ okD f l) : chk f l = 1 := if_neg h


set_option maxHeartbeats 1000000 in
theorem Check_any (f l : Int) (w : World) :
    Calls Tryd.prog 16 #[.agg #[.int .i64 f, .int .i64 l]] w fun e w' => e = .returned (.int .i64 (chk f l)) ∧ Below w.heap.size w w' := by
  go_enter Tryd.func16, Tryd.ntmps16
  go_wp2
  all_goals
    go_ret
    refine ⟨ret_int ?_, by (repeat (first | with_reducible exact Below.refl _ _ | with_reducible assumption | refine Below.alloc ?_ (by first | exact Nat.le_refl _ | (simp; done) | (simp; omega)) _ | refine Below.setCell ?_ (by first | exact Nat.le_refl _ | (simp; done) | (simp; omega)) _))⟩
    try simp only [Bool.not_eq_false', Bool.not_eq_true', decide_eq_true_eq, decide_eq_false_iff_not, Bool.and_eq_true, Bool.and_eq_false_imp, beq_iff_eq, bne_iff_ne, beq_eq_false_iff_ne, ne_eq, Decidable.not_not] at *
    first | (rw [chk_yes (by omega)]; done) | (rw [chk_no (by omega)]; done)

set_option maxHeartbeats 1000000 in
theorem refGood_any (f l : Int) (w : World) :
    Calls Tryd.prog 30 #[.agg #[.int .i64 f, .int .i64 l]] w fun e w' => e = .returned (.bool (decide (okD f l))) ∧ Below w.heap.size w w' := by
  go_enter Tryd.func30, Tryd.ntmps30
  go_wp2
  all_goals
    go_ret
    exact ⟨ret_bool (by (first | rfl | (symm; exact decide_eq_false (by omega)) | (symm; exact decide_eq_true (by omega)) | (rw [decide_eq_decide]; omega) | (rw [Bool.eq_iff_iff]; simp only [Bool.and_eq_true, decide_eq_true_eq, Bool.false_eq_true, true_iff, false_iff, not_and]; omega))), by (repeat (first | with_reducible exact Below.refl _ _ | with_reducible assumption | refine Below.alloc ?_ (by first | exact Nat.le_refl _ | (simp; done) | (simp; omega)) _ | refine Below.setCell ?_ (by first | exact Nat.le_refl _ | (simp; done) | (simp; omega)) _))⟩

set_option maxHeartbeats 1000000 in
theorem refCheck_any (f l : Int) (w : World) :
    Calls Tryd.prog 17 #[.agg #[.int .i64 f, .int .i64 l]] w fun e w' => e = .returned (.int .i64 (chk f l)) ∧ Below w.heap.size w w' := by
  go_enter Tryd.func17, Tryd.ntmps17
  go_wp2
  all_goals
    go_ret
    refine ⟨ret_int ?_, by (repeat (first | with_reducible exact Below.refl _ _ | with_reducible assumption | refine Below.alloc ?_ (by first | exact Nat.le_refl _ | (simp; done) | (simp; omega)) _ | refine Below.setCell ?_ (by first | exact Nat.le_refl _ | (simp; done) | (simp; omega)) _))⟩
    try simp only [Bool.not_eq_false', Bool.not_eq_true', decide_eq_true_eq, decide_eq_false_iff_not, Bool.and_eq_true, Bool.and_eq_false_imp, beq_iff_eq, bne_iff_ne, beq_eq_false_iff_ne, ne_eq, Decidable.not_not] at *
    first | (rw [chk_yes (by omega)]; done) | (rw [chk_no (by omega)]; done)

/-- The relation before. -/
def befV (a b c d : Int) : Int := if okD a b ∧ okD c d then (if b < c then 2 else if d ≤ a then 0 else 1) else 0
def relE (a b c d : Int) : Int := if okD a b ∧ okD c d then 0 else 1
theorem befV_2 {a b c d : Int} (h : okD a b ∧ okD c d) (k : b < c) : befV a b c d = 2 := by unfold befV; rw [if_pos h, if_pos k]
theorem befV_0 {a b c d : Int} (h : okD a b ∧ okD c d) (k : ¬ b < c) (j : d ≤ a) : befV a b c d = 0 := by unfold befV; rw [if_pos h, if_neg k, if_pos j]
theorem befV_1 {a b c d : Int} (h : okD a b ∧ okD c d) (k : ¬ b < c) (j : ¬ d ≤ a) : befV a b c d = 1 := by unfold befV; rw [if_pos h, if_neg k, if_neg j]
theorem befV_no {a b c d : Int} (h : ¬ (okD a b ∧ okD c d)) : befV a b c d = 0 := if_neg h
theorem relE_0 {a b c d : Int} (h : okD a b ∧ okD c d) : relE a b c d = 0 := if_pos h
theorem relE_1 {a b c d : Int} (h : ¬ (okD a b ∧ okD c d)) : relE a b c d = 1 := if_neg h
theorem bef2 {a b c d : Int} (h : okD a b ∧ okD c d) (k : b < c) : Ending.returned (.tuple #[.int .i64 2, .int .i64 0]) = .returned (.tuple #[.int .i64 (befV a b c d), .int .i64 (relE a b c d)]) := by rw [befV_2 h k, relE_0 h]
theorem bef0 {a b c d : Int} (h : okD a b ∧ okD c d) (k : ¬ b < c) (j : d ≤ a) : Ending.returned (.tuple #[.int .i64 0, .int .i64 0]) = .returned (.tuple #[.int .i64 (befV a b c d), .int .i64 (relE a b c d)]) := by rw [befV_0 h k j, relE_0 h]
theorem bef1 {a b c d : Int} (h : okD a b ∧ okD c d) (k : ¬ b < c) (j : ¬ d ≤ a) : Ending.returned (.tuple #[.int .i64 1, .int .i64 0]) = .returned (.tuple #[.int .i64 (befV a b c d), .int .i64 (relE a b c d)]) := by rw [befV_1 h k j, relE_0 h]
theorem befno {a b c d : Int} (h : ¬ (okD a b ∧ okD c d)) : Ending.returned (.tuple #[.int .i64 0, .int .i64 1]) = .returned (.tuple #[.int .i64 (befV a b c d), .int .i64 (relE a b c d)]) := by rw [befV_no h, relE_1 h]

set_option maxHeartbeats 4000000 in
theorem Before_any (a b c d : Int) (w : World) :
    Calls Tryd.prog 12 #[.agg #[.int .i64 a, .int .i64 b], .agg #[.int .i64 c, .int .i64 d]] w fun e w' => e = .returned (.tuple #[.int .i64 (befV a b c d), .int .i64 (relE a b c d)]) ∧ Below w.heap.size w w' := by
  go_enter Tryd.func12, Tryd.ntmps12
  go_wp2
  all_goals
    go_ret2
    refine ⟨?_, by (repeat (first | with_reducible exact Below.refl _ _ | with_reducible assumption | refine Below.alloc ?_ (by first | exact Nat.le_refl _ | (simp; done) | (simp; omega)) _ | refine Below.setCell ?_ (by first | exact Nat.le_refl _ | (simp; done) | (simp; omega)) _))⟩
    first | exact bef2 (by omega) (by omega) | exact bef0 (by omega) (by omega) (by omega) | exact bef1 (by omega) (by omega) (by omega) | exact befno (by omega)
set_option maxHeartbeats 4000000 in
theorem refBefore_any (a b c d : Int) (w : World) :
    Calls Tryd.prog 13 #[.agg #[.int .i64 a, .int .i64 b], .agg #[.int .i64 c, .int .i64 d]] w fun e w' => e = .returned (.tuple #[.int .i64 (befV a b c d), .int .i64 (relE a b c d)]) ∧ Below w.heap.size w w' := by
  go_enter Tryd.func13, Tryd.ntmps13
  go_wp2
  all_goals
    go_ret2
    refine ⟨?_, by (repeat (first | with_reducible exact Below.refl _ _ | with_reducible assumption | refine Below.alloc ?_ (by first | exact Nat.le_refl _ | (simp; done) | (simp; omega)) _ | refine Below.setCell ?_ (by first | exact Nat.le_refl _ | (simp; done) | (simp; omega)) _))⟩
    try simp only [Bool.not_eq_false', Bool.not_eq_true', decide_eq_true_eq, decide_eq_false_iff_not, Bool.and_eq_true, Bool.and_eq_false_imp, beq_iff_eq, bne_iff_ne, beq_eq_false_iff_ne, ne_eq, Decidable.not_not] at *
    first | exact bef2 (by omega) (by omega) | exact bef0 (by omega) (by omega) (by omega) | exact bef1 (by omega) (by omega) (by omega) | exact befno (by omega)

/-- The relation same. -/
def samV (a b c d : Int) : Int := if okD a b ∧ okD c d then (if b < c ∨ d < a then 0 else if a = c ∧ b = d ∧ a = b then 2 else 1) else 0
theorem sam0 {a b c d : Int} (h : okD a b ∧ okD c d) (k : b < c ∨ d < a) : Ending.returned (.tuple #[.int .i64 0, .int .i64 0]) = .returned (.tuple #[.int .i64 (samV a b c d), .int .i64 (relE a b c d)]) := by rw [relE_0 h]; unfold samV; rw [if_pos h, if_pos k]
theorem sam2 {a b c d : Int} (h : okD a b ∧ okD c d) (k : a = c ∧ b = d ∧ a = b) : Ending.returned (.tuple #[.int .i64 2, .int .i64 0]) = .returned (.tuple #[.int .i64 (samV a b c d), .int .i64 (relE a b c d)]) := by rw [relE_0 h]; unfold samV; rw [if_pos h, if_neg (by omega), if_pos k]
theorem sam1 {a b c d : Int} (h : okD a b ∧ okD c d) (k : ¬ (b < c ∨ d < a)) (j : ¬ (a = c ∧ b = d ∧ a = b)) : Ending.returned (.tuple #[.int .i64 1, .int .i64 0]) = .returned (.tuple #[.int .i64 (samV a b c d), .int .i64 (relE a b c d)]) := by rw [relE_0 h]; unfold samV; rw [if_pos h, if_neg k, if_neg j]
theorem samno {a b c d : Int} (h : ¬ (okD a b ∧ okD c d)) : Ending.returned (.tuple #[.int .i64 0, .int .i64 1]) = .returned (.tuple #[.int .i64 (samV a b c d), .int .i64 (relE a b c d)]) := by rw [relE_1 h]; unfold samV; rw [if_neg h]

set_option maxHeartbeats 4000000 in
theorem Same_any (a b c d : Int) (w : World) :
    Calls Tryd.prog 14 #[.agg #[.int .i64 a, .int .i64 b], .agg #[.int .i64 c, .int .i64 d]] w fun e w' => e = .returned (.tuple #[.int .i64 (samV a b c d), .int .i64 (relE a b c d)]) ∧ Below w.heap.size w w' := by
  go_enter Tryd.func14, Tryd.ntmps14
  go_wp2
  all_goals
    go_ret2
    refine ⟨?_, by (repeat (first | with_reducible exact Below.refl _ _ | with_reducible assumption | refine Below.alloc ?_ (by first | exact Nat.le_refl _ | (simp; done) | (simp; omega)) _ | refine Below.setCell ?_ (by first | exact Nat.le_refl _ | (simp; done) | (simp; omega)) _))⟩
    try simp only [Bool.not_eq_false', Bool.not_eq_true', decide_eq_true_eq, decide_eq_false_iff_not, Bool.and_eq_true, Bool.and_eq_false_imp, beq_iff_eq, bne_iff_ne, beq_eq_false_iff_ne, ne_eq, Decidable.not_not] at *
    first | exact sam2 (by omega) (by omega) | exact sam0 (by omega) (by omega) | exact sam1 (by omega) (by omega) (by omega) | exact samno (by omega)

set_option maxHeartbeats 4000000 in
theorem refSame_any (a b c d : Int) (w : World) :
    Calls Tryd.prog 15 #[.agg #[.int .i64 a, .int .i64 b], .agg #[.int .i64 c, .int .i64 d]] w fun e w' => e = .returned (.tuple #[.int .i64 (samV a b c d), .int .i64 (relE a b c d)]) ∧ Below w.heap.size w w' := by
  go_enter Tryd.func15, Tryd.ntmps15
  go_wp2
  all_goals
    go_ret2
    refine ⟨?_, by (repeat (first | with_reducible exact Below.refl _ _ | with_reducible assumption | refine Below.alloc ?_ (by first | exact Nat.le_refl _ | (simp; done) | (simp; omega)) _ | refine Below.setCell ?_ (by first | exact Nat.le_refl _ | (simp; done) | (simp; omega)) _))⟩
    try simp only [Bool.not_eq_false', Bool.not_eq_true', decide_eq_true_eq, decide_eq_false_iff_not, Bool.and_eq_true, Bool.and_eq_false_imp, beq_iff_eq, bne_iff_ne, beq_eq_false_iff_ne, ne_eq, Decidable.not_not] at *
    first | exact sam2 (by omega) (by omega) | exact sam0 (by omega) (by omega) | exact sam1 (by omega) (by omega) (by omega) | exact samno (by omega)

theorem areValid_any (a b c d : Int) (w : World) :
    Calls Tryd.prog 29 #[.agg #[.int .i64 a, .int .i64 b], .agg #[.int .i64 c, .int .i64 d]] w fun e w' => e = .returned (.bool (decide (okD a b ∧ okD c d))) ∧ Below w.heap.size w w' := by
  go_enter Tryd.func29, Tryd.ntmps29
  go_wp2
  all_goals
    go_ret
    refine ⟨ret_bool ?_, by (repeat (first | with_reducible exact Below.refl _ _ | with_reducible assumption | refine Below.alloc ?_ (by first | exact Nat.le_refl _ | (simp; done) | (simp; omega)) _ | refine Below.setCell ?_ (by first | exact Nat.le_refl _ | (simp; done) | (simp; omega)) _))⟩
    try simp only [Bool.not_eq_false', Bool.not_eq_true', decide_eq_true_eq, decide_eq_false_iff_not, Bool.and_eq_true, Bool.and_eq_false_imp, beq_iff_eq, bne_iff_ne, beq_eq_false_iff_ne, ne_eq, Decidable.not_not] at *
    first | rfl | (symm; exact decide_eq_false (by omega)) | (symm; exact decide_eq_true (by omega)) | (rw [decide_eq_decide]; omega) | (rw [Bool.eq_iff_iff]; simp only [Bool.and_eq_true, decide_eq_true_eq, Bool.false_eq_true, true_iff, false_iff, not_and]; omega)
end Go.Proofs.YtjpiaccpcmlfnaaDoor
