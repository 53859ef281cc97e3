/-
  What Years and YearEnd answer, in the code and in the reference, walked over the program's text. No statement of the seat is proved here.
-/
import Derived.Test.YtjpiaccpcmlfnaaDoorWalks2
namespace Go.Proofs.YtjpiaccpcmlfnaaDoor
open Go.RowKit Cal

/-- A date of a year that may be behind the last one. -/
def Later (y m d : Int) : Prop := Valid y m d ∨ (4471 ≤ y ∧ y ≤ 4671 ∧ 1 ≤ m ∧ m ≤ 12 ∧ 1 ≤ d ∧ d ≤ 31)
theorem later_last {y m d : Int} (h : Later y m d) : (ofE y m d = 0 ∧ ofV y m d = lastV y m d) ∨ (ofE y m d = 2 ∧ lastV y m d = 1048575) := by
  rcases h with h | h
  · by_cases c : num y m d ≤ 1048575
    · obtain ⟨_, _, _, _, e, f⟩ := h
      have := of_yes e f c
      exact Or.inl ⟨this.2, by rw [this.1]; unfold lastV; rw [if_pos c]⟩
    · exact Or.inr ⟨(of_no (by omega)).2, if_neg c⟩
  · obtain ⟨a, b, c, e, f, g⟩ := h
    have hl : len y m = 0 := len_out y m (by omega)
    have hn : ¬ num y m d ≤ 1048575 := by
      have := ys_mono 4471 y a; rw [ys_4471] at this
      have := cum_bd y m c (by omega)
      unfold num; omega
    exact Or.inr ⟨(of_no (by omega)).2, if_neg hn⟩
theorem later_of {y m d k : Int} (h : Valid y m d) (h0 : 0 ≤ k) (h1 : k ≤ 200) : Later (y + k) m (day28 y m d k) := by
  obtain ⟨v1, v2, v3, v4, v5, v6⟩ := h
  have b := (len_bd y m).2
  have hd : 1 ≤ day28 y m d k ∧ day28 y m d k ≤ 31 := by unfold day28; split <;> omega
  by_cases c : y + k ≤ 4470
  · refine Or.inl ⟨by omega, c, v3, v4, hd.1, ?_⟩
    rw [len_in (y + k) m (by omega) c v3 v4]
    rw [len_in y m v1 v2 v3 v4] at v6
    have := lp_01 y; have := lp_01 (y + k)
    unfold day28
    by_cases e : m = 2
    · subst e
      rw [ml_two, if_pos rfl] at *
      by_cases f : d = 29
      · by_cases g : lp (y + k) = 0
        · rw [if_pos ⟨rfl, f, g⟩]; omega
        · rw [if_neg (fun x => g x.2.2)]; omega
      · rw [if_neg (fun x => f x.2.1)]; omega
    · rw [if_neg (fun x => e x.1), if_neg e]; rw [if_neg e] at v6; exact v6
  · exact Or.inr ⟨by omega, by omega, v3, v4, hd.1, hd.2⟩
theorem later_end {y : Int} (h1 : 1600 ≤ y) (h2 : y ≤ 4470) : Later y 12 31 := by
  refine Or.inl ⟨h1, h2, by omega, by omega, by omega, ?_⟩
  rw [len_in y 12 h1 h2 (by omega) (by omega)]
  have : ml 12 = 31 := by decide
  rw [this]; simp

set_option maxHeartbeats 400000 in
theorem ofOrLast_any (y m d : Int) (w : World) (hT : Table w) (h : Later y m d) :
    Calls Tryd.prog 49 #[.int .i64 y, .int .i64 m, .int .i64 d] w fun e w' => e = .returned (.int .i64 (lastV y m d)) ∧ w = w' := by
  have HT := Lib.hid hT
  clear hT
  rcases later_last h with ⟨e1, e2⟩ | ⟨e1, e2⟩
  · have E1 := Lib.hid e1
    have E2 := Lib.hid e2
    clear e1 e2 h
    go_enter Tryd.func49, Tryd.ntmps49
    go_wp2_with (go_at_call 71; refine (Of_any _ _ _ _ HT.out).mono ?_; rw [E1.out, E2.out]; rintro e w' ⟨rfl, rfl⟩)
    go_ret
    exact ⟨rfl, rfl⟩
  · have E1 := Lib.hid e1
    have E2 := Lib.hid e2
    clear e1 e2 h
    go_enter Tryd.func49, Tryd.ntmps49
    go_wp2_with (go_at_call 71; refine (Of_any _ _ _ _ HT.out).mono ?_; rw [E1.out]; rintro e w' ⟨rfl, rfl⟩)
    go_ret
    exact ⟨ret_int E2.out.symm, rfl⟩

theorem day28_no {y m d k : Int} (h : ¬ (m = 2 ∧ d = 29 ∧ lp (y + k) = 0)) : day28 y m d k = d := if_neg h
theorem day28_yes {y k : Int} (h : lp (y + k) = 0) : day28 y 2 29 k = 28 := if_pos ⟨rfl, rfl, h⟩

set_option maxHeartbeats 1000000 in
theorem Years_is (n k y m d : Int) (w : World) (hT : Table w) (h1 : 0 ≤ n) (h2 : n ≤ 1048575) (h : IsDate n y m d) (k1 : 0 ≤ k) (k2 : k ≤ 200) :
    Calls Tryd.prog 28 #[.int .i64 n, .int .i64 k] w fun e w' => e = .returned (.tuple #[.int .i64 (lastV (y + k) m (day28 y m d k)), .int .i64 0]) ∧ w = w' := by
  have L := later_of h.1 k1 k2
  have HT := Lib.hid hT
  have HI := Lib.hid h
  obtain ⟨v1, v2, v3, v4, v5, v6⟩ := h.1
  clear hT h v6
  by_cases a : m = 2
  · subst a
    by_cases b : d = 29
    · subst b
      cases hl : lpB (y + k)
      · have hl' : (!lpB (y + k)) = true := by rw [hl]; rfl
        have HE := Lib.hid (day28_yes (lpB_false hl))
        rw [HE.out] at L
        have HL := Lib.hid L
        clear L
        rw [HE.out]
        go_enter Tryd.func28, Tryd.ntmps28
        go_wp2_with (first | (go_at_call 47; refine (Date_is _ _ _ _ _ HT.out (by omega) (by omega) HI.out).mono ?_; rintro e w' ⟨rfl, rfl⟩) | (go_at_call 48; refine (isLeap_any _ _ (by omega) (by omega)).mono ?_; rintro e w' ⟨rfl, rfl⟩) | (go_at_call 49; refine (ofOrLast_any _ _ _ _ HT.out HL.out).mono ?_; rintro e w' ⟨rfl, rfl⟩))
        go_ret2
        exact ⟨rfl, rfl⟩
      · have HE := Lib.hid (day28_no (y := y) (m := 2) (d := 29) (k := k) (by rw [lpB_true hl]; omega))
        rw [HE.out] at L
        have HL := Lib.hid L
        clear L
        rw [HE.out]
        go_enter Tryd.func28, Tryd.ntmps28
        go_wp2_with (first | (go_at_call 47; refine (Date_is _ _ _ _ _ HT.out (by omega) (by omega) HI.out).mono ?_; rintro e w' ⟨rfl, rfl⟩) | (go_at_call 48; refine (isLeap_any _ _ (by omega) (by omega)).mono ?_; rintro e w' ⟨rfl, rfl⟩) | (go_at_call 49; refine (ofOrLast_any _ _ _ _ HT.out HL.out).mono ?_; rintro e w' ⟨rfl, rfl⟩))
        go_ret2
        exact ⟨rfl, rfl⟩
    · have b' : (d == 29) = false := by simp [b]
      have HE := Lib.hid (day28_no (y := y) (m := 2) (d := d) (k := k) (fun x => b x.2.1))
      rw [HE.out] at L
      have HL := Lib.hid L
      clear L b
      rw [HE.out]
      go_enter Tryd.func28, Tryd.ntmps28
      go_wp2_with (first | (go_at_call 47; refine (Date_is _ _ _ _ _ HT.out (by omega) (by omega) HI.out).mono ?_; rintro e w' ⟨rfl, rfl⟩) | (go_at_call 49; refine (ofOrLast_any _ _ _ _ HT.out HL.out).mono ?_; rintro e w' ⟨rfl, rfl⟩))
      go_ret2
      exact ⟨rfl, rfl⟩
  · have a' : (m == 2) = false := by simp [a]
    have HE := Lib.hid (day28_no (y := y) (m := m) (d := d) (k := k) (fun x => a x.1))
    rw [HE.out] at L
    have HL := Lib.hid L
    clear L a
    rw [HE.out]
    go_enter Tryd.func28, Tryd.ntmps28
    go_wp2_with (first | (go_at_call 47; refine (Date_is _ _ _ _ _ HT.out (by omega) (by omega) HI.out).mono ?_; rintro e w' ⟨rfl, rfl⟩) | (go_at_call 49; refine (ofOrLast_any _ _ _ _ HT.out HL.out).mono ?_; rintro e w' ⟨rfl, rfl⟩))
    go_ret2
    exact ⟨rfl, rfl⟩

set_option maxHeartbeats 1000000 in
theorem Years_no (n k : Int) (w : World) (hT : Table w) (h : n < 0 ∨ 1048575 < n ∨ k < 0 ∨ 200 < k) :
    Calls Tryd.prog 28 #[.int .i64 n, .int .i64 k] w fun e w' => e = .returned (.tuple #[.int .i64 0, .int .i64 2]) ∧ w = w' := by
  have HT := Lib.hid hT
  clear hT
  by_cases c : n < 0 ∨ 1048575 < n
  · have C := Lib.hid c
    clear c h
    go_enter Tryd.func28, Tryd.ntmps28
    go_wp2_with (go_at_call 47; refine (Date_no _ _ C.out).mono ?_; rintro e w' ⟨rfl, rfl⟩)
    go_ret2
    exact ⟨rfl, rfl⟩
  · obtain ⟨y, m, d, hI⟩ := date_exists n (by omega) (by omega)
    have HI := Lib.hid hI
    have h1 : 0 ≤ n := by omega
    have h2 : n ≤ 1048575 := by omega
    clear hI
    by_cases k1 : k < 0
    · clear h c
      go_enter Tryd.func28, Tryd.ntmps28
      go_wp2_with (go_at_call 47; refine (Date_is _ _ _ _ _ HT.out (by omega) (by omega) HI.out).mono ?_; rintro e w' ⟨rfl, rfl⟩)
      go_ret2
      exact ⟨rfl, rfl⟩
    · have k2 : 200 < k := by omega
      clear h c k1
      go_enter Tryd.func28, Tryd.ntmps28
      go_wp2_with (go_at_call 47; refine (Date_is _ _ _ _ _ HT.out (by omega) (by omega) HI.out).mono ?_; rintro e w' ⟨rfl, rfl⟩)
      go_ret2
      exact ⟨rfl, rfl⟩

set_option maxHeartbeats 1000000 in
theorem refYears_no (n k : Int) (w : World) (h : n < 0 ∨ 1048575 < n ∨ k < 0 ∨ 200 < k) :
    Calls Tryd.prog 31 #[.int .i64 n, .int .i64 k] w fun e w' => e = .returned (.tuple #[.int .i64 0, .int .i64 2]) ∧ w = w' := by
  by_cases c : n < 0 ∨ 1048575 < n
  · have C := Lib.hid c
    clear c h
    go_enter Tryd.func31, Tryd.ntmps31
    go_wp2_with (go_at_call 50; refine (good_no _ _ C.out).mono ?_; rintro e w' ⟨rfl, rfl⟩)
    go_ret2
    exact ⟨rfl, rfl⟩
  · have h1 : 0 ≤ n := by omega
    have h2 : n ≤ 1048575 := by omega
    by_cases k1 : k < 0
    · clear h c
      go_enter Tryd.func31, Tryd.ntmps31
      go_wp2_with (go_at_call 50; refine (good_yes _ _ (by omega) (by omega)).mono ?_; rintro e w' ⟨rfl, rfl⟩)
      go_ret2
      exact ⟨rfl, rfl⟩
    · have k2 : 200 < k := by omega
      clear h c k1
      go_enter Tryd.func31, Tryd.ntmps31
      go_wp2_with (go_at_call 50; refine (good_yes _ _ (by omega) (by omega)).mono ?_; rintro e w' ⟨rfl, rfl⟩)
      go_ret2
      exact ⟨rfl, rfl⟩

set_option maxHeartbeats 2000000 in
theorem refYears_is (n k y m d : Int) (w : World) (h1 : 0 ≤ n) (h2 : n ≤ 1048575) (h : IsDate n y m d) (k1 : 0 ≤ k) (k2 : k ≤ 200) :
    Calls Tryd.prog 31 #[.int .i64 n, .int .i64 k] w fun e w' => e = .returned (.tuple #[.int .i64 (lastV (y + k) m (day28 y m d k)), .int .i64 0]) ∧ w = w' := by
  have L := later_of h.1 k1 k2
  have HI := Lib.hid h
  obtain ⟨v1, v2, v3, v4, v5, v6⟩ := h.1
  clear h v6
  rcases later_last L with ⟨e1, e2⟩ | ⟨e1, e2⟩
  · clear L
    by_cases a : m = 2
    · subst a
      by_cases b : d = 29
      · subst b
        cases hl : lpB (y + k)
        · have hl' : (!lpB (y + k)) = true := by rw [hl]; rfl
          have HE := Lib.hid (day28_yes (lpB_false hl))
          rw [HE.out] at e1 e2 ⊢
          have E1 := Lib.hid e1; have E2 := Lib.hid e2
          clear e1 e2
          go_enter Tryd.func31, Tryd.ntmps31
          go_wp2_with (first | (go_at_call 50; refine (good_yes _ _ (by omega) (by omega)).mono ?_; rintro e w' ⟨rfl, rfl⟩) | (go_at_call 38; refine (refDate_is _ _ _ _ _ (by omega) (by omega) HI.out).mono ?_; rintro e w' ⟨rfl, rfl⟩) | (go_at_call 51; refine (leap_any _ _ (by omega) (by omega)).mono ?_; rintro e w' ⟨rfl, rfl⟩) | (go_at_call 52; refine (refOf_any _ _ _ _).mono ?_; rw [E1.out, E2.out]; rintro e w' ⟨rfl, rfl⟩))
          go_ret2
          exact ⟨rfl, rfl⟩
        · have HE := Lib.hid (day28_no (y := y) (m := 2) (d := 29) (k := k) (by rw [lpB_true hl]; omega))
          rw [HE.out] at e1 e2 ⊢
          have E1 := Lib.hid e1; have E2 := Lib.hid e2
          clear e1 e2
          go_enter Tryd.func31, Tryd.ntmps31
          go_wp2_with (first | (go_at_call 50; refine (good_yes _ _ (by omega) (by omega)).mono ?_; rintro e w' ⟨rfl, rfl⟩) | (go_at_call 38; refine (refDate_is _ _ _ _ _ (by omega) (by omega) HI.out).mono ?_; rintro e w' ⟨rfl, rfl⟩) | (go_at_call 51; refine (leap_any _ _ (by omega) (by omega)).mono ?_; rintro e w' ⟨rfl, rfl⟩) | (go_at_call 52; refine (refOf_any _ _ _ _).mono ?_; rw [E1.out, E2.out]; rintro e w' ⟨rfl, rfl⟩))
          go_ret2
          exact ⟨rfl, rfl⟩
      · have b' : (d == 29) = false := by simp [b]
        have HE := Lib.hid (day28_no (y := y) (m := 2) (d := d) (k := k) (fun x => b x.2.1))
        rw [HE.out] at e1 e2 ⊢
        have E1 := Lib.hid e1; have E2 := Lib.hid e2
        clear e1 e2 b
        go_enter Tryd.func31, Tryd.ntmps31
        go_wp2_with (first | (go_at_call 50; refine (good_yes _ _ (by omega) (by omega)).mono ?_; rintro e w' ⟨rfl, rfl⟩) | (go_at_call 38; refine (refDate_is _ _ _ _ _ (by omega) (by omega) HI.out).mono ?_; rintro e w' ⟨rfl, rfl⟩) | (go_at_call 52; refine (refOf_any _ _ _ _).mono ?_; rw [E1.out, E2.out]; rintro e w' ⟨rfl, rfl⟩))
        go_ret2
        exact ⟨rfl, rfl⟩
    · have a' : (m == 2) = false := by simp [a]
      have HE := Lib.hid (day28_no (y := y) (m := m) (d := d) (k := k) (fun x => a x.1))
      rw [HE.out] at e1 e2 ⊢
      have E1 := Lib.hid e1; have E2 := Lib.hid e2
      clear e1 e2 a
      go_enter Tryd.func31, Tryd.ntmps31
      go_wp2_with (first | (go_at_call 50; refine (good_yes _ _ (by omega) (by omega)).mono ?_; rintro e w' ⟨rfl, rfl⟩) | (go_at_call 38; refine (refDate_is _ _ _ _ _ (by omega) (by omega) HI.out).mono ?_; rintro e w' ⟨rfl, rfl⟩) | (go_at_call 52; refine (refOf_any _ _ _ _).mono ?_; rw [E1.out, E2.out]; rintro e w' ⟨rfl, rfl⟩))
      go_ret2
      exact ⟨rfl, rfl⟩
  · clear L
    by_cases a : m = 2
    · subst a
      by_cases b : d = 29
      · subst b
        cases hl : lpB (y + k)
        · have hl' : (!lpB (y + k)) = true := by rw [hl]; rfl
          have HE := Lib.hid (day28_yes (lpB_false hl))
          rw [HE.out] at e1 e2 ⊢
          have E1 := Lib.hid e1; have E2 := Lib.hid e2
          clear e1 e2
          go_enter Tryd.func31, Tryd.ntmps31
          go_wp2_with (first | (go_at_call 50; refine (good_yes _ _ (by omega) (by omega)).mono ?_; rintro e w' ⟨rfl, rfl⟩) | (go_at_call 38; refine (refDate_is _ _ _ _ _ (by omega) (by omega) HI.out).mono ?_; rintro e w' ⟨rfl, rfl⟩) | (go_at_call 51; refine (leap_any _ _ (by omega) (by omega)).mono ?_; rintro e w' ⟨rfl, rfl⟩) | (go_at_call 52; refine (refOf_any _ _ _ _).mono ?_; rw [E1.out]; rintro e w' ⟨rfl, rfl⟩))
          go_ret2
          exact ⟨ret2 E2.out.symm rfl, rfl⟩
        · have HE := Lib.hid (day28_no (y := y) (m := 2) (d := 29) (k := k) (by rw [lpB_true hl]; omega))
          rw [HE.out] at e1 e2 ⊢
          have E1 := Lib.hid e1; have E2 := Lib.hid e2
          clear e1 e2
          go_enter Tryd.func31, Tryd.ntmps31
          go_wp2_with (first | (go_at_call 50; refine (good_yes _ _ (by omega) (by omega)).mono ?_; rintro e w' ⟨rfl, rfl⟩) | (go_at_call 38; refine (refDate_is _ _ _ _ _ (by omega) (by omega) HI.out).mono ?_; rintro e w' ⟨rfl, rfl⟩) | (go_at_call 51; refine (leap_any _ _ (by omega) (by omega)).mono ?_; rintro e w' ⟨rfl, rfl⟩) | (go_at_call 52; refine (refOf_any _ _ _ _).mono ?_; rw [E1.out]; rintro e w' ⟨rfl, rfl⟩))
          go_ret2
          exact ⟨ret2 E2.out.symm rfl, rfl⟩
      · have b' : (d == 29) = false := by simp [b]
        have HE := Lib.hid (day28_no (y := y) (m := 2) (d := d) (k := k) (fun x => b x.2.1))
        rw [HE.out] at e1 e2 ⊢
        have E1 := Lib.hid e1; have E2 := Lib.hid e2
        clear e1 e2 b
        go_enter Tryd.func31, Tryd.ntmps31
        go_wp2_with (first | (go_at_call 50; refine (good_yes _ _ (by omega) (by omega)).mono ?_; rintro e w' ⟨rfl, rfl⟩) | (go_at_call 38; refine (refDate_is _ _ _ _ _ (by omega) (by omega) HI.out).mono ?_; rintro e w' ⟨rfl, rfl⟩) | (go_at_call 52; refine (refOf_any _ _ _ _).mono ?_; rw [E1.out]; rintro e w' ⟨rfl, rfl⟩))
        go_ret2
        exact ⟨ret2 E2.out.symm rfl, rfl⟩
    · have a' : (m == 2) = false := by simp [a]
      have HE := Lib.hid (day28_no (y := y) (m := m) (d := d) (k := k) (fun x => a x.1))
      rw [HE.out] at e1 e2 ⊢
      have E1 := Lib.hid e1; have E2 := Lib.hid e2
      clear e1 e2 a
      go_enter Tryd.func31, Tryd.ntmps31
      go_wp2_with (first | (go_at_call 50; refine (good_yes _ _ (by omega) (by omega)).mono ?_; rintro e w' ⟨rfl, rfl⟩) | (go_at_call 38; refine (refDate_is _ _ _ _ _ (by omega) (by omega) HI.out).mono ?_; rintro e w' ⟨rfl, rfl⟩) | (go_at_call 52; refine (refOf_any _ _ _ _).mono ?_; rw [E1.out]; rintro e w' ⟨rfl, rfl⟩))
      go_ret2
      exact ⟨ret2 E2.out.symm rfl, rfl⟩

set_option maxHeartbeats 400000 in
theorem YearEnd_is (n y m d : Int) (w : World) (hT : Table w) (h1 : 0 ≤ n) (h2 : n ≤ 1048575) (h : IsDate n y m d) :
    Calls Tryd.prog 83 #[.int .i64 n] w fun e w' => e = .returned (.tuple #[.int .i64 (lastV y 12 31), .int .i64 0]) ∧ w = w' := by
  have HL := Lib.hid (later_end h.1.1 h.1.2.1)
  have HT := Lib.hid hT
  have HI := Lib.hid h
  clear hT h
  go_enter Tryd.func83, Tryd.ntmps83
  go_wp2_with (first | (go_at_call 47; refine (Date_is _ _ _ _ _ HT.out (by omega) (by omega) HI.out).mono ?_; rintro e w' ⟨rfl, rfl⟩) | (go_at_call 49; refine (ofOrLast_any _ _ _ _ HT.out HL.out).mono ?_; rintro e w' ⟨rfl, rfl⟩))
  go_ret2
  exact ⟨rfl, rfl⟩

set_option maxHeartbeats 400000 in
theorem YearEnd_no (n : Int) (w : World) (h : n < 0 ∨ 1048575 < n) :
    Calls Tryd.prog 83 #[.int .i64 n] w fun e w' => e = .returned (.tuple #[.int .i64 0, .int .i64 2]) ∧ w = w' := by
  have C := Lib.hid h
  clear h
  go_enter Tryd.func83, Tryd.ntmps83
  go_wp2_with (go_at_call 47; refine (Date_no _ _ C.out).mono ?_; rintro e w' ⟨rfl, rfl⟩)
  go_ret2
  exact ⟨rfl, rfl⟩

set_option maxHeartbeats 400000 in
theorem refYearEnd_no (n : Int) (w : World) (h : n < 0 ∨ 1048575 < n) :
    Calls Tryd.prog 59 #[.int .i64 n] w fun e w' => e = .returned (.tuple #[.int .i64 0, .int .i64 2]) ∧ w = w' := by
  have C := Lib.hid h
  clear h
  go_enter Tryd.func59, Tryd.ntmps59
  go_wp2_with (go_at_call 38; refine (refDate_no _ _ C.out).mono ?_; rintro e w' ⟨rfl, rfl⟩)
  go_ret2
  exact ⟨rfl, rfl⟩

set_option maxHeartbeats 400000 in
theorem refYearEnd_is (n y m d : Int) (w : World) (h1 : 0 ≤ n) (h2 : n ≤ 1048575) (h : IsDate n y m d) :
    Calls Tryd.prog 59 #[.int .i64 n] w fun e w' => e = .returned (.tuple #[.int .i64 (lastV y 12 31), .int .i64 0]) ∧ w = w' := by
  have HI := Lib.hid h
  rcases later_last (later_end h.1.1 h.1.2.1) with ⟨e1, e2⟩ | ⟨e1, e2⟩
  · have E1 := Lib.hid e1; have E2 := Lib.hid e2
    clear e1 e2 h
    go_enter Tryd.func59, Tryd.ntmps59
    go_wp2_with (first | (go_at_call 38; refine (refDate_is _ _ _ _ _ (by omega) (by omega) HI.out).mono ?_; rintro e w' ⟨rfl, rfl⟩) | (go_at_call 52; refine (refOf_any _ _ _ _).mono ?_; rw [E1.out, E2.out]; rintro e w' ⟨rfl, rfl⟩))
    go_ret2
    exact ⟨rfl, rfl⟩
  · have E1 := Lib.hid e1; have E2 := Lib.hid e2
    clear e1 e2 h
    go_enter Tryd.func59, Tryd.ntmps59
    go_wp2_with (first | (go_at_call 38; refine (refDate_is _ _ _ _ _ (by omega) (by omega) HI.out).mono ?_; rintro e w' ⟨rfl, rfl⟩) | (go_at_call 52; refine (refOf_any _ _ _ _).mono ?_; rw [E1.out]; rintro e w' ⟨rfl, rfl⟩))
    go_ret2
    exact ⟨ret2 E2.out.symm rfl, rfl⟩
end Go.Proofs.YtjpiaccpcmlfnaaDoor
