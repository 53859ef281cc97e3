/-
  The reference's year, month and period. No statement of the seat is proved here.
-/
import Derived.Test.YtjpiaccpcmlfnaaDoorPer2
namespace Go.Proofs.YtjpiaccpcmlfnaaDoor
open Go.RowKit Cal
open Classical

theorem year_ok {y : Int} (h1 : 1600 ≤ y) (h2 : y ≤ 4470) : ofE y 1 1 = 0 := by
  have hl : len y 1 = 31 := by
    unfold len
    rw [if_pos ⟨h1, h2, by omega, by omega⟩]
    rfl
  have hn : num y 1 1 ≤ 1048575 := by
    have hc : cum y 1 = 0 := by unfold cum; rw [if_neg (by omega)]; rfl
    unfold num ys
    rw [hc]; omega
  exact (of_yes (by omega) (by omega) hn).2
theorem year_bad {y m d : Int} (h : y < 1600 ∨ 4470 < y) : ofE y m d = 2 := by
  refine (of_no ?_).2
  rintro ⟨a, b, _⟩
  unfold len at b
  rw [if_neg (by omega)] at b
  omega

set_option maxHeartbeats 1000000 in
theorem refYear_is (y : Int) (w : World) (h1 : 1600 ≤ y) (h2 : y ≤ 4470) :
    Calls Tryd.prog 40 #[.int .i64 y] w fun e w' => e = .returned (.agg #[.int .i64 (ofV y 1 1), .int .i64 (lastV y 12 31)]) ∧ Below w.heap.size w w' := by
  obtain ⟨i, b1, b2⟩ := of_zero (year_ok h1 h2)
  have C1 := Lib.hid (fun w => refOf_any y 1 1 w)
  rw [year_ok h1 h2] at C1
  have C2 := Lib.hid (fun w => refYearEnd_is (ofV y 1 1) y 1 1 w b1 b2 i)
  obtain ⟨v, hv⟩ : ∃ v, v = ofV y 1 1 := ⟨_, rfl⟩
  rw [← hv] at C1 C2 ⊢
  clear i b1 b2 hv
  go_enter Tryd.func40, Tryd.ntmps40
  go_wp2_with fail
  refine (C1.out _).mono ?_
  rintro e w' ⟨rfl, rfl⟩
  go_wp2_with fail
  refine (C2.out _).mono ?_
  rintro e w' ⟨rfl, rfl⟩
  go_wp2
  refine bodyPost_ret (by simp [results, Tryd.results40, go_sem] <;> rfl) rfl ⟨rfl, ?_⟩
  exact (Below.refl w.heap.size w).alloc (Nat.le_refl _) _

set_option maxHeartbeats 1000000 in
theorem refMonth_yes (y m : Int) (w : World) (h : ofE y m 1 = 0) :
    Calls Tryd.prog 39 #[.int .i64 y, .int .i64 m] w fun e w' => e = .returned (.tuple #[.agg #[.int .i64 (ofV y m 1), .int .i64 (mn (ofV y m 1 + len y m - 1) 1048575)], .bool true]) ∧ Below w.heap.size w w' := by
  obtain ⟨i, b1, b2⟩ := of_zero h
  have l1 := len_bd y m
  have C1 := Lib.hid (fun w => refOf_any y m 1 w)
  have C2 := Lib.hid (fun w => refLength_any y m w)
  rw [h] at C1
  obtain ⟨v, hv⟩ : ∃ v, v = ofV y m 1 := ⟨_, rfl⟩
  obtain ⟨L, hL⟩ : ∃ L, L = len y m := ⟨_, rfl⟩
  rw [← hv] at C1 b1 b2 ⊢
  rw [← hL] at C2 l1 ⊢
  obtain ⟨q, hq⟩ : ∃ q, q = mn (v + L - 1) 1048575 := ⟨_, rfl⟩
  have HQ := Lib.hid hq
  rw [← hq]
  clear i hv hL hq h
  go_enter Tryd.func39, Tryd.ntmps39
  go_wp2_with fail
  refine (C1.out _).mono ?_
  rintro e w' ⟨rfl, rfl⟩
  go_wp2_with fail
  refine (C2.out _).mono ?_
  rintro e w' ⟨rfl, rfl⟩
  go_wp2
  all_goals
    refine bodyPost_ret (by simp [results, Tryd.results39, go_sem] <;> rfl) rfl ⟨?_, ?_⟩
    · have := HQ.out
      unfold mn at this
      rw [this]
      first | rw [if_pos (by omega)] | rw [if_neg (by omega)]
    · exact (Below.refl w.heap.size w).alloc (Nat.le_refl _) _

set_option maxHeartbeats 1000000 in
theorem refMonth_no (y m : Int) (w : World) (h : ofE y m 1 = 2) :
    Calls Tryd.prog 39 #[.int .i64 y, .int .i64 m] w fun e w' => e = .returned (.tuple #[.agg #[.int .i64 0, .int .i64 0], .bool false]) ∧ Below w.heap.size w w' := by
  have C1 := Lib.hid (fun w => refOf_any y m 1 w)
  rw [h] at C1
  obtain ⟨v, hv⟩ : ∃ v, v = ofV y m 1 := ⟨_, rfl⟩
  rw [← hv] at C1
  clear hv h
  go_enter Tryd.func39, Tryd.ntmps39
  go_wp2_with fail
  refine (C1.out _).mono ?_
  rintro e w' ⟨rfl, rfl⟩
  go_wp2
  refine bodyPost_ret (by simp [results, Tryd.results39, go_sem] <;> rfl) rfl ⟨rfl, ?_⟩
  exact (Below.refl w.heap.size w).alloc (Nat.le_refl _) _

end Go.Proofs.YtjpiaccpcmlfnaaDoor
