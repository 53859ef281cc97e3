/-
  The reference's begins and ends. No statement of the seat is proved here.
-/
import Derived.Test.YtjpiaccpcmlfnaaDoorRy
import Derived.Test.YtjpiaccpcmlfnaaDoorFm
namespace Go.Proofs.YtjpiaccpcmlfnaaDoor
open Go.RowKit Cal
open Classical

theorem c0_pos {m : Int} (h1 : 1 ≤ m) (h2 : m ≤ 12) : 0 ≤ c0 m ∧ (m ≠ 1 → 1 ≤ c0 m) := by
  rcases (show m = 1 ∨ m = 2 ∨ m = 3 ∨ m = 4 ∨ m = 5 ∨ m = 6 ∨ m = 7 ∨ m = 8 ∨ m = 9 ∨ m = 10 ∨ m = 11 ∨ m = 12 by omega) with h | h | h | h | h | h | h | h | h | h | h | h <;> subst h <;> decide
theorem first_iff {n y m d : Int} (h : IsDate n y m d) : ys y = n ↔ (d = 1 ∧ m = 1) := by
  obtain ⟨⟨v1, v2, v3, v4, v5, v6⟩, e⟩ := h
  have c := c0_pos v3 v4
  have l := lp_01 y
  unfold num cum at e
  constructor
  · intro h
    by_cases hm : m = 1
    · refine ⟨?_, hm⟩
      subst hm
      split at e <;> omega
    · have := c.2 hm
      split at e <;> omega
  · rintro ⟨rfl, rfl⟩
    rw [if_neg (by omega)] at e
    have : c0 1 = 0 := rfl
    omega

set_option maxHeartbeats 1000000 in
theorem refBegins_is (n y m d : Int) (w : World) (h1 : 0 ≤ n) (h2 : n ≤ 1048575) (h : IsDate n y m d) :
    Calls Tryd.prog 41 #[.int .i64 n] w fun e w' => e = .returned (.string (begS (dayS n) n)) ∧ w = w' := by
  obtain ⟨_, p1, _⟩ := per_year h h2
  obtain ⟨_, p2, _⟩ := per_month h h2
  have fi := first_iff h
  have tz := txt_size y m d
  have C1 := Lib.hid (fun w => refFormat_is n y m d w h1 h2 h)
  have C2 := Lib.hid (fun w => refDate_is n y m d w h1 h2 h)
  have t10 := txt_10 y m d
  rw [dayS_is h]
  obtain ⟨S, hS⟩ : ∃ S, S = strOfNums (txt y m d) := ⟨_, rfl⟩
  rw [← hS] at p1 p2 tz C1 t10 ⊢
  have s4 : 4 ≤ S.size := by omega
  have s7 : 7 ≤ S.size := by omega
  clear hS h
  by_cases hd : d = 1
  · have e1 : (d == 1) = true := bool_eq hd
    by_cases hm : m = 1
    · have e2 : (m == 1) = true := bool_eq hm
      have R : begS S n = S.extract 0 4 := by unfold begS; rw [if_pos (by rw [p1]; exact fi.2 ⟨hd, hm⟩)]
      rw [R]
      clear p1 p2 fi tz t10 R hd hm
      go_enter Tryd.func41, Tryd.ntmps41
      go_wp2_with fail
      refine (C1.out _).mono ?_
      rintro e w' ⟨rfl, rfl⟩
      go_wp2_with fail
      refine (C2.out _).mono ?_
      rintro e w' ⟨rfl, rfl⟩
      go_wp2
      go_ret
      exact ⟨rfl, rfl⟩
    · have e2 : (m == 1) = false := bool_ne hm
      have R : begS S n = S.extract 0 7 := by
        unfold begS
        rw [if_neg (by rw [p1]; exact fun k => hm (fi.1 k).2), if_pos (by rw [p2]; omega)]
      rw [R]
      clear p1 p2 fi tz t10 R hd hm
      go_enter Tryd.func41, Tryd.ntmps41
      go_wp2_with fail
      refine (C1.out _).mono ?_
      rintro e w' ⟨rfl, rfl⟩
      go_wp2_with fail
      refine (C2.out _).mono ?_
      rintro e w' ⟨rfl, rfl⟩
      go_wp2
      go_ret
      exact ⟨rfl, rfl⟩
  · have e1 : (d == 1) = false := bool_ne hd
    have R : begS S n = S := by
      unfold begS
      rw [if_neg (by rw [p1]; exact fun k => hd (fi.1 k).1), if_neg (by rw [p2]; omega), t10]
    rw [R]
    clear p1 p2 fi tz t10 R hd
    go_enter Tryd.func41, Tryd.ntmps41
    go_wp2_with fail
    refine (C1.out _).mono ?_
    rintro e w' ⟨rfl, rfl⟩
    go_wp2_with fail
    refine (C2.out _).mono ?_
    rintro e w' ⟨rfl, rfl⟩
    go_wp2
    go_ret
    exact ⟨rfl, rfl⟩

theorem fx1 (a b : Int) (w : World) : (Instr.field 23 (.agg #[.int .i64 a, .int .i64 b]) 1).run Tryd.prog w = .ok (.int .i64 b) w := by kernel_rfl

set_option maxHeartbeats 1000000 in
theorem refEnds_is (n y m d : Int) (w : World) (h1 : 0 ≤ n) (h2 : n ≤ 1048575) (h : IsDate n y m d) :
    Calls Tryd.prog 42 #[.int .i64 n] w fun e w' => e = .returned (.string (endS (dayS n) n)) ∧ Below w.heap.size w w' := by
  obtain ⟨_, _, p1⟩ := per_year h h2
  obtain ⟨_, _, p2⟩ := per_month h h2
  obtain ⟨mf, mq, _, _⟩ := month_first h h2
  have tz := txt_size y m d
  have C1 := Lib.hid (fun w => refFormat_is n y m d w h1 h2 h)
  have C2 := Lib.hid (fun w => refDate_is n y m d w h1 h2 h)
  have C3 := Lib.hid (fun w => refMonth_yes y m w mf)
  have C4 := Lib.hid (fun w => refYear_is y w h.1.1 h.1.2.1)
  have ov : ofV y m 1 = n - d + 1 := by rw [← mq]; exact (of_zero mf).1.2.symm
  rw [ov, show n - d + 1 + len y m - 1 = n - d + len y m by omega] at C3
  have t10 := txt_10 y m d
  rw [dayS_is h]
  obtain ⟨S, hS⟩ : ∃ S, S = strOfNums (txt y m d) := ⟨_, rfl⟩
  rw [← hS] at p1 p2 tz C1 t10 ⊢
  have s4 : 4 ≤ S.size := by omega
  have s7 : 7 ≤ S.size := by omega
  obtain ⟨L, hL⟩ : ∃ L, L = lastV y 12 31 := ⟨_, rfl⟩
  obtain ⟨M, hM⟩ : ∃ M, M = mn (n - d + len y m) 1048575 := ⟨_, rfl⟩
  rw [← hL] at p1 C4
  rw [← hM] at p2 C3
  clear hS h mf mq ov hL hM
  have AF : Hid (∀ (W W2 : World) (o : Obj), Below w.heap.size w W → Below (W.alloc o).heap.size (W.alloc o) W2 → Below w.heap.size w W2) := by
    intro W W2 o b1 b2
    exact (b1.alloc b1.size o).trans (b2.mono (by have := b1.size; simp; omega))
  have hq : ∃ R, R = endS S n ∧ (((L == n) = true ∧ R = S.extract 0 4) ∨ ((L == n) = false ∧ (M == n) = true ∧ R = S.extract 0 7) ∨ ((L == n) = false ∧ (M == n) = false ∧ R = S)) := by
    refine ⟨_, rfl, ?_⟩
    unfold endS
    rw [p1, p2]
    by_cases a : L = n
    · exact .inl ⟨bool_eq a, if_pos a⟩
    · by_cases b : M = n
      · exact .inr (.inl ⟨bool_ne a, bool_eq b, by rw [if_neg a, if_pos b]⟩)
      · exact .inr (.inr ⟨bool_ne a, bool_ne b, by rw [if_neg a, if_neg b, t10]⟩)
  obtain ⟨R, hR, hc⟩ := hq
  rw [← hR]
  clear hR p1 p2 t10 tz
  rcases hc with ⟨a, rfl⟩ | ⟨a, b, rfl⟩ | ⟨a, b, rfl⟩
  · go_enter Tryd.func42, Tryd.ntmps42
    go_wp2_with fail
    refine (C1.out _).mono ?_
    rintro e w' ⟨rfl, rfl⟩
    go_wp2_with fail
    refine (C2.out _).mono ?_
    rintro e w' ⟨rfl, rfl⟩
    go_wp2_with fail
    refine (C3.out _).mono ?_
    rintro e w1 ⟨rfl, hb⟩
    have B1 := Lib.hid hb
    clear hb
    go_wp2_with fail
    refine (C4.out _).mono ?_
    rintro e w2 ⟨rfl, hb⟩
    have B2 := Lib.hid (AF.out _ _ _ B1.out hb)
    obtain ⟨c0, c1, f0, f1, z⟩ := keep2 hb
    clear hb
    have FX := fx1 (ofV y 1 1) L
    go_wp2
    go_ret
    exact ⟨rfl, B2.out⟩
  · go_enter Tryd.func42, Tryd.ntmps42
    go_wp2_with fail
    refine (C1.out _).mono ?_
    rintro e w' ⟨rfl, rfl⟩
    go_wp2_with fail
    refine (C2.out _).mono ?_
    rintro e w' ⟨rfl, rfl⟩
    go_wp2_with fail
    refine (C3.out _).mono ?_
    rintro e w1 ⟨rfl, hb⟩
    have B1 := Lib.hid hb
    clear hb
    go_wp2_with fail
    refine (C4.out _).mono ?_
    rintro e w2 ⟨rfl, hb⟩
    have B2 := Lib.hid (AF.out _ _ _ B1.out hb)
    obtain ⟨c0, c1, f0, f1, z⟩ := keep2 hb
    clear hb
    have FX := fx1 (ofV y 1 1) L
    go_wp2
    go_ret
    exact ⟨rfl, B2.out⟩
  · go_enter Tryd.func42, Tryd.ntmps42
    go_wp2_with fail
    refine (C1.out _).mono ?_
    rintro e w' ⟨rfl, rfl⟩
    go_wp2_with fail
    refine (C2.out _).mono ?_
    rintro e w' ⟨rfl, rfl⟩
    go_wp2_with fail
    refine (C3.out _).mono ?_
    rintro e w1 ⟨rfl, hb⟩
    have B1 := Lib.hid hb
    clear hb
    go_wp2_with fail
    refine (C4.out _).mono ?_
    rintro e w2 ⟨rfl, hb⟩
    have B2 := Lib.hid (AF.out _ _ _ B1.out hb)
    obtain ⟨c0, c1, f0, f1, z⟩ := keep2 hb
    clear hb
    have FX := fx1 (ofV y 1 1) L
    go_wp2
    go_ret
    exact ⟨rfl, B2.out⟩

end Go.Proofs.YtjpiaccpcmlfnaaDoor
