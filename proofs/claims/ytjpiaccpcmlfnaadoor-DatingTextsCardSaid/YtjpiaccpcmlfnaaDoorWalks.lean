/-
  What each function of package day and of its reference answers, walked over the program's text: small functions first. No statement of the seat is proved here.
-/
import Derived.Test.YtjpiaccpcmlfnaaDoorRows
import Derived.Test.YtjpiaccpcmlfnaaDoorMath
import Derived.WalkKit
import Derived.WalkSpells
import Derived.WalkLawsBesides
import Derived.Lib.Hide
namespace Go.Proofs.YtjpiaccpcmlfnaaDoor
open Go.RowKit Cal

/-- The table of the months' lengths, as the program's variable holds it. -/
def Table (w : World) : Prop := ∀ i : Nat, i < 12 → w.cell? ⟨0, i, none⟩ = some (.int .i64 (tab.getD i 0))

theorem ret_bool {a b : Bool} (h : a = b) : Ending.returned (.bool a) = .returned (.bool b) := by rw [h]
theorem ret_int {k : IntKind} {a b : Int} (h : a = b) : Ending.returned (.int k a) = .returned (.int k b) := by rw [h]

set_option maxHeartbeats 400000 in
theorem isDay_yes (d : Int) (w : World) (h1 : 0 ≤ d) (h2 : d ≤ 1048575) : Calls Tryd.prog 68 #[.int .i64 d] w fun e w' => e = .returned (.bool true) ∧ w = w' := by
  go_enter Tryd.func68, Tryd.ntmps68
  go_wp2
  go_ret
  exact ⟨ret_bool (by simp), rfl⟩
set_option maxHeartbeats 400000 in
theorem isDay_no (d : Int) (w : World) (h : d < 0 ∨ 1048575 < d) : Calls Tryd.prog 68 #[.int .i64 d] w fun e w' => e = .returned (.bool false) ∧ w = w' := by
  rcases h with h | h
  · go_enter Tryd.func68, Tryd.ntmps68
    go_wp2
    go_ret
    exact ⟨rfl, rfl⟩
  · have h' : 0 ≤ d := by omega
    go_enter Tryd.func68, Tryd.ntmps68
    go_wp2
    go_ret
    exact ⟨ret_bool (by simp; omega), rfl⟩

set_option maxHeartbeats 400000 in
theorem good_yes (d : Int) (w : World) (h1 : 0 ≤ d) (h2 : d ≤ 1048575) : Calls Tryd.prog 50 #[.int .i64 d] w fun e w' => e = .returned (.bool true) ∧ w = w' := by
  go_enter Tryd.func50, Tryd.ntmps50
  go_wp2
  go_ret
  exact ⟨ret_bool (by simp), rfl⟩
set_option maxHeartbeats 400000 in
theorem good_no (d : Int) (w : World) (h : d < 0 ∨ 1048575 < d) : Calls Tryd.prog 50 #[.int .i64 d] w fun e w' => e = .returned (.bool false) ∧ w = w' := by
  rcases h with h | h
  · go_enter Tryd.func50, Tryd.ntmps50
    go_wp2
    go_ret
    exact ⟨rfl, rfl⟩
  · have h' : 0 ≤ d := by omega
    go_enter Tryd.func50, Tryd.ntmps50
    go_wp2
    go_ret
    exact ⟨ret_bool (by simp; omega), rfl⟩

set_option maxHeartbeats 400000 in
theorem yearStart_any (y : Int) (w : World) (h1 : 1600 ≤ y) (h2 : y ≤ 4671) :
    Calls Tryd.prog 69 #[.int .i64 y] w fun e w' => e = .returned (.int .i64 (ys y)) ∧ w = w' := by
  go_enter Tryd.func69, Tryd.ntmps69
  go_wp2
  go_ret
  exact ⟨ret_int (by unfold ys; omega), rfl⟩

set_option maxHeartbeats 400000 in
theorem before_any (y : Int) (w : World) (h1 : 1600 ≤ y) (h2 : y ≤ 4671) :
    Calls Tryd.prog 57 #[.int .i64 y] w fun e w' => e = .returned (.int .i64 (ys y)) ∧ w = w' := by
  by_cases h : y = 1600
  · subst h
    go_enter Tryd.func57, Tryd.ntmps57
    go_wp2
    go_ret
    exact ⟨ret_int (by rw [ys_1600]), rfl⟩
  · have hb : ((y - 1600) == 0) = false := by simp; omega
    have h3 : 1601 ≤ y := by omega
    clear h
    go_enter Tryd.func57, Tryd.ntmps57
    go_wp2
    go_ret
    exact ⟨ret_int (by unfold ys; omega), rfl⟩

/-- Whether a year is a leap year, as the code asks it. -/
def lpB (y : Int) : Bool := decide (lp y = 1)
theorem lpB_pos {y : Int} (h : (y % 4 = 0 ∧ y % 100 ≠ 0) ∨ y % 400 = 0) : lpB y = true := by unfold lpB; rw [lp_pos h]; rfl
theorem lpB_neg {y : Int} (h : ¬ ((y % 4 = 0 ∧ y % 100 ≠ 0) ∨ y % 400 = 0)) : lpB y = false := by unfold lpB; rw [lp_neg h]; rfl

theorem lpB_true {y : Int} (h : lpB y = true) : lp y = 1 := of_decide_eq_true h
theorem lpB_false {y : Int} (h : lpB y = false) : lp y = 0 := by have := of_decide_eq_false h; have := lp_01 y; omega
set_option maxHeartbeats 400000 in
theorem isLeap_any (y : Int) (w : World) (h1 : 1600 ≤ y) (h2 : y ≤ 4671) :
    Calls Tryd.prog 48 #[.int .i64 y] w fun e w' => e = .returned (.bool (lpB y)) ∧ w = w' := by
  by_cases a : y % 4 = 0
  · have a' : (y % 4 == 0) = true := by simp [a]
    by_cases b : y % 100 = 0
    · have b' : (y % 100 != 0) = false := by simp [b]
      by_cases c : y % 400 = 0
      · have c' : (y % 400 == 0) = true := by simp [c]
        have H := Lib.hid (lpB_pos (Or.inr c)); clear a b c
        go_enter Tryd.func48, Tryd.ntmps48
        go_wp2
        go_ret
        exact ⟨ret_bool H.out.symm, rfl⟩
      · have c' : (y % 400 == 0) = false := by simp [c]
        have H := Lib.hid (lpB_neg (y := y) (by omega)); clear a b c
        go_enter Tryd.func48, Tryd.ntmps48
        go_wp2
        go_ret
        exact ⟨ret_bool H.out.symm, rfl⟩
    · have b' : (y % 100 != 0) = true := by simp [b]
      have H := Lib.hid (lpB_pos (y := y) (Or.inl ⟨a, b⟩)); clear a b
      go_enter Tryd.func48, Tryd.ntmps48
      go_wp2
      go_ret
      exact ⟨ret_bool H.out.symm, rfl⟩
  · have a' : (y % 4 == 0) = false := by simp [a]
    have c' : (y % 400 == 0) = false := by simp; omega
    have H := Lib.hid (lpB_neg (y := y) (by omega)); clear a
    go_enter Tryd.func48, Tryd.ntmps48
    go_wp2
    go_ret
    exact ⟨ret_bool H.out.symm, rfl⟩

set_option maxHeartbeats 400000 in
theorem leap_any (y : Int) (w : World) (h1 : 1600 ≤ y) (h2 : y ≤ 4671) :
    Calls Tryd.prog 51 #[.int .i64 y] w fun e w' => e = .returned (.bool (lpB y)) ∧ w = w' := by
  by_cases a : y % 4 = 0
  · have a' : (y % 4 == 0) = true := by simp [a]
    by_cases b : y % 100 = 0
    · have b' : (y % 100 != 0) = false := by simp [b]
      by_cases c : y % 400 = 0
      · have c' : (y % 400 == 0) = true := by simp [c]
        have H := Lib.hid (lpB_pos (Or.inr c)); clear a b c
        go_enter Tryd.func51, Tryd.ntmps51
        go_wp2
        go_ret
        exact ⟨ret_bool H.out.symm, rfl⟩
      · have c' : (y % 400 == 0) = false := by simp [c]
        have H := Lib.hid (lpB_neg (y := y) (by omega)); clear a b c
        go_enter Tryd.func51, Tryd.ntmps51
        go_wp2
        go_ret
        exact ⟨ret_bool H.out.symm, rfl⟩
    · have b' : (y % 100 != 0) = true := by simp [b]
      have H := Lib.hid (lpB_pos (y := y) (Or.inl ⟨a, b⟩)); clear a b
      go_enter Tryd.func51, Tryd.ntmps51
      go_wp2
      go_ret
      exact ⟨ret_bool H.out.symm, rfl⟩
  · have a' : (y % 4 == 0) = false := by simp [a]
    have c' : (y % 400 == 0) = false := by simp; omega
    have H := Lib.hid (lpB_neg (y := y) (by omega)); clear a
    go_enter Tryd.func51, Tryd.ntmps51
    go_wp2
    go_ret
    exact ⟨ret_bool H.out.symm, rfl⟩


set_option maxHeartbeats 800000 in
theorem Length_any (y m : Int) (w : World) (hT : Table w) :
    Calls Tryd.prog 70 #[.int .i64 y, .int .i64 m] w fun e w' => e = .returned (.int .i64 (len y m)) ∧ w = w' := by
  by_cases a : 1600 ≤ y
  case neg =>
    have H := Lib.hid (len_out y m (by omega)); clear hT; have a' : y < 1600 := by omega
    go_enter Tryd.func70, Tryd.ntmps70
    go_wp2
    go_ret
    exact ⟨ret_int H.out.symm, rfl⟩
  by_cases b : y ≤ 4470
  case neg =>
    have H := Lib.hid (len_out y m (by omega)); clear hT; have b' : 4470 < y := by omega
    go_enter Tryd.func70, Tryd.ntmps70
    go_wp2
    go_ret
    exact ⟨ret_int H.out.symm, rfl⟩
  by_cases c : 1 ≤ m
  case neg =>
    have H := Lib.hid (len_out y m (by omega)); clear hT; have c' : m < 1 := by omega
    go_enter Tryd.func70, Tryd.ntmps70
    go_wp2
    go_ret
    exact ⟨ret_int H.out.symm, rfl⟩
  by_cases d : m ≤ 12
  case neg =>
    have H := Lib.hid (len_out y m (by omega)); clear hT; have d' : 12 < m := by omega
    go_enter Tryd.func70, Tryd.ntmps70
    go_wp2
    go_ret
    exact ⟨ret_int H.out.symm, rfl⟩
  have L := len_in y m a b c d
  by_cases e : m = 2
  · subst e
    cases hl : lpB y
    · have H : Hid (len y 2 = 28) := by show len y 2 = 28; rw [L, if_pos rfl, ml_two, lpB_false hl]; rfl
      have hc : w.cell? ⟨0, 1, none⟩ = some (.int .i64 28) := hT 1 (by omega)
      clear L
      go_enter Tryd.func70, Tryd.ntmps70
      go_wp2_with (go_at_call 48; refine (isLeap_any _ _ (by omega) (by omega)).mono ?_; rintro e w' ⟨rfl, rfl⟩)
      go_ret
      exact ⟨ret_int H.out.symm, rfl⟩
    · have H : Hid (len y 2 = 29) := by show len y 2 = 29; rw [L, if_pos rfl, ml_two, lpB_true hl]; rfl
      clear L
      go_enter Tryd.func70, Tryd.ntmps70
      go_wp2_with (go_at_call 48; refine (isLeap_any _ _ (by omega) (by omega)).mono ?_; rintro e w' ⟨rfl, rfl⟩)
      go_ret
      exact ⟨ret_int H.out.symm, rfl⟩
  · have H : Hid (len y m = ml m) := by show len y m = ml m; rw [L, if_neg e]; omega
    have e' : (m == 2) = false := by simp [e]
    have hc : w.cell? ⟨0, m.toNat - 1, none⟩ = some (.int .i64 (ml m)) := by rw [show m.toNat - 1 = (m - 1).toNat from by omega]; exact hT (m - 1).toNat (by omega)
    clear e L hT
    go_enter Tryd.func70, Tryd.ntmps70
    go_wp2
    go_ret
    exact ⟨ret_int H.out.symm, rfl⟩

/-- The reference's own table, made anew at each call. -/
def arr : Array Value := #[.int .i64 31, .int .i64 28, .int .i64 31, .int .i64 30, .int .i64 31, .int .i64 30, .int .i64 31, .int .i64 31, .int .i64 30, .int .i64 31, .int .i64 30, .int .i64 31]
theorem arr_at (m : Int) (c : 1 ≤ m) (d : m ≤ 12) (w : World) : (Instr.index 79 (.agg arr) (.int .i64 (m - 1))).run Tryd.prog w = .ok (.int .i64 (ml m)) w := by
  rcases months c d with h | h | h | h | h | h | h | h | h | h | h | h <;> subst h <;> kernel_rfl

set_option maxHeartbeats 800000 in
theorem refLength_any (y m : Int) (w : World) :
    Calls Tryd.prog 58 #[.int .i64 y, .int .i64 m] w fun e w' => e = .returned (.int .i64 (len y m)) ∧ w = w' := by
  by_cases a : 1600 ≤ y
  case neg =>
    have H := Lib.hid (len_out y m (by omega)); have a' : y < 1600 := by omega
    go_enter Tryd.func58, Tryd.ntmps58
    go_wp2
    go_ret
    exact ⟨ret_int H.out.symm, rfl⟩
  by_cases b : y ≤ 4470
  case neg =>
    have H := Lib.hid (len_out y m (by omega)); have b' : 4470 < y := by omega
    go_enter Tryd.func58, Tryd.ntmps58
    go_wp2
    go_ret
    exact ⟨ret_int H.out.symm, rfl⟩
  by_cases c : 1 ≤ m
  case neg =>
    have H := Lib.hid (len_out y m (by omega)); have c' : m < 1 := by omega
    go_enter Tryd.func58, Tryd.ntmps58
    go_wp2
    go_ret
    exact ⟨ret_int H.out.symm, rfl⟩
  by_cases d : m ≤ 12
  case neg =>
    have H := Lib.hid (len_out y m (by omega)); have d' : 12 < m := by omega
    go_enter Tryd.func58, Tryd.ntmps58
    go_wp2
    go_ret
    exact ⟨ret_int H.out.symm, rfl⟩
  have L := len_in y m a b c d
  by_cases e : m = 2
  · subst e
    cases hl : lpB y
    · have H : Hid (len y 2 = 28) := by show len y 2 = 28; rw [L, if_pos rfl, ml_two, lpB_false hl]; rfl
      have hi : ∀ w, (Instr.index 79 (.agg arr) (.int .i64 1)).run Tryd.prog w = .ok (.int .i64 28) w := fun w => arr_at 2 (by omega) (by omega) w
      unfold arr at hi; clear L
      go_enter Tryd.func58, Tryd.ntmps58
      go_wp2_with (go_at_call 51; refine (leap_any _ _ (by omega) (by omega)).mono ?_; rintro e w' ⟨rfl, rfl⟩)
      go_ret
      exact ⟨ret_int H.out.symm, rfl⟩
    · have H : Hid (len y 2 = 29) := by show len y 2 = 29; rw [L, if_pos rfl, ml_two, lpB_true hl]; rfl
      clear L
      go_enter Tryd.func58, Tryd.ntmps58
      go_wp2_with (go_at_call 51; refine (leap_any _ _ (by omega) (by omega)).mono ?_; rintro e w' ⟨rfl, rfl⟩)
      go_ret
      exact ⟨ret_int H.out.symm, rfl⟩
  · have H : Hid (len y m = ml m) := by show len y m = ml m; rw [L, if_neg e]; omega
    have e' : (m == 2) = false := by simp [e]
    have hi : ∀ w, (Instr.index 79 (.agg arr) (.int .i64 (m - 1))).run Tryd.prog w = .ok (.int .i64 (ml m)) w := arr_at m c d
    unfold arr at hi; clear e L
    go_enter Tryd.func58, Tryd.ntmps58
    go_wp2
    go_ret
    exact ⟨ret_int H.out.symm, rfl⟩

end Go.Proofs.YtjpiaccpcmlfnaaDoor
