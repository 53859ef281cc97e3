/-
  What Meet answers, in package dating and in its reference. No statement of the seat is proved here.
-/
import Derived.Test.YtjpiaccpcmlfnaaDoorSm
namespace Go.Proofs.YtjpiaccpcmlfnaaDoor
open Go.RowKit Cal
/-- What two datings have in common. -/
def mx (a c : Int) : Int := if a < c then c else a
def mn (b d : Int) : Int := if d < b then d else b
def meetB (a b c d : Int) : Bool := decide (okD a b ∧ okD c d ∧ mx a c ≤ mn b d)
def meetF (a b c d : Int) : Int := if okD a b ∧ okD c d ∧ mx a c ≤ mn b d then mx a c else 0
def meetL (a b c d : Int) : Int := if okD a b ∧ okD c d ∧ mx a c ≤ mn b d then mn b d else 0
theorem meet_yes {a b c d x y : Int} (h : okD a b ∧ okD c d) (hx : mx a c = x) (hy : mn b d = y) (hxy : x ≤ y) : Ending.returned (.tuple #[.agg #[.int .i64 x, .int .i64 y], .bool true]) = .returned (.tuple #[.agg #[.int .i64 (meetF a b c d), .int .i64 (meetL a b c d)], .bool (meetB a b c d)]) := by
  subst hx hy
  unfold meetF meetL meetB; rw [if_pos ⟨h.1, h.2, hxy⟩, if_pos ⟨h.1, h.2, hxy⟩, decide_eq_true ⟨h.1, h.2, hxy⟩]
theorem meet_no {a b c d : Int} (h : ¬ (okD a b ∧ okD c d ∧ mx a c ≤ mn b d)) : Ending.returned (.tuple #[.agg #[.int .i64 0, .int .i64 0], .bool false]) = .returned (.tuple #[.agg #[.int .i64 (meetF a b c d), .int .i64 (meetL a b c d)], .bool (meetB a b c d)]) := by
  unfold meetF meetL meetB; rw [if_neg h, if_neg h, decide_eq_false h]
theorem meet_no' {a b c d x y : Int} (hx : mx a c = x) (hy : mn b d = y) (h : ¬ (okD a b ∧ okD c d ∧ x ≤ y)) : Ending.returned (.tuple #[.agg #[.int .i64 0, .int .i64 0], .bool false]) = .returned (.tuple #[.agg #[.int .i64 (meetF a b c d), .int .i64 (meetL a b c d)], .bool (meetB a b c d)]) := by
  subst hx hy; exact meet_no h
theorem mx_y {a c : Int} (h : a < c) : mx a c = c := if_pos h
theorem mx_n {a c : Int} (h : ¬ a < c) : mx a c = a := if_neg h
theorem mn_y {b d : Int} (h : d < b) : mn b d = d := if_pos h
theorem mn_n {b d : Int} (h : ¬ d < b) : mn b d = b := if_neg h

set_option maxHeartbeats 8000000 in
theorem Meet_any (a b c d : Int) (w : World) :
    Calls Tryd.prog 20 #[.agg #[.int .i64 a, .int .i64 b], .agg #[.int .i64 c, .int .i64 d]] w fun e w' => e = .returned (.tuple #[.agg #[.int .i64 (meetF a b c d), .int .i64 (meetL a b c d)], .bool (meetB a b c d)]) ∧ Below w.heap.size w w' := by
  obtain ⟨x, hx⟩ : ∃ x, mx a c = x := ⟨_, rfl⟩
  obtain ⟨y, hy⟩ : ∃ y, mn b d = y := ⟨_, rfl⟩
  have HX := Lib.hid hx
  have HY := Lib.hid hy
  have gx : (if a < c then c else a) = x := hx
  have gy : (if d < b then d else b) = y := hy
  clear hx hy
  go_enter Tryd.func20, Tryd.ntmps20
  go_wp2
  all_goals
    refine bodyPost_ret (by simp [results, Tryd.results20, go_sem]; rfl) rfl ⟨?_, by (repeat (first | with_reducible exact Below.refl _ _ | with_reducible assumption | refine Below.alloc ?_ (by first | exact Nat.le_refl _ | (simp; done) | (simp; omega)) _ | refine Below.setCell ?_ (by first | exact Nat.le_refl _ | (simp; done) | (simp; omega)) _))⟩
    try simp only [Bool.not_eq_false', Bool.not_eq_true', decide_eq_true_eq, decide_eq_false_iff_not, Bool.and_eq_true, Bool.and_eq_false_imp, beq_iff_eq, bne_iff_ne, beq_eq_false_iff_ne, ne_eq, Decidable.not_not] at *
    first | exact meet_yes (by omega) HX.out HY.out (by omega) | exact meet_no' HX.out HY.out (by omega)
set_option maxHeartbeats 8000000 in
theorem refMeet_any (a b c d : Int) (w : World) :
    Calls Tryd.prog 21 #[.agg #[.int .i64 a, .int .i64 b], .agg #[.int .i64 c, .int .i64 d]] w fun e w' => e = .returned (.tuple #[.agg #[.int .i64 (meetF a b c d), .int .i64 (meetL a b c d)], .bool (meetB a b c d)]) ∧ Below w.heap.size w w' := by
  obtain ⟨x, hx⟩ : ∃ x, mx a c = x := ⟨_, rfl⟩
  obtain ⟨y, hy⟩ : ∃ y, mn b d = y := ⟨_, rfl⟩
  have HX := Lib.hid hx
  have HY := Lib.hid hy
  have gx : (if a < c then c else a) = x := hx
  have gy : (if d < b then d else b) = y := hy
  clear hx hy
  go_enter Tryd.func21, Tryd.ntmps21
  go_wp2
  all_goals
    refine bodyPost_ret (by simp [results, Tryd.results21, go_sem]; rfl) rfl ⟨?_, by (repeat (first | with_reducible exact Below.refl _ _ | with_reducible assumption | refine Below.alloc ?_ (by first | exact Nat.le_refl _ | (simp; done) | (simp; omega)) _ | refine Below.setCell ?_ (by first | exact Nat.le_refl _ | (simp; done) | (simp; omega)) _))⟩
    try simp only [Bool.not_eq_false', Bool.not_eq_true', decide_eq_true_eq, decide_eq_false_iff_not, Bool.and_eq_true, Bool.and_eq_false_imp, beq_iff_eq, bne_iff_ne, beq_eq_false_iff_ne, ne_eq, Decidable.not_not] at *
    first | exact meet_yes (by omega) HX.out HY.out (by omega) | exact meet_no' HX.out HY.out (by omega)
end Go.Proofs.YtjpiaccpcmlfnaaDoor
