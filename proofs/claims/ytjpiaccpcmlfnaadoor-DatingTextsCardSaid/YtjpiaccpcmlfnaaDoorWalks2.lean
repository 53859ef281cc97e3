/-
  What Of, Date, Weekday, Years and YearEnd answer, in the code and in the reference, walked over the program's text. No statement of the seat is proved here.
-/
import Derived.Test.YtjpiaccpcmlfnaaDoorWalks
namespace Go.Proofs.YtjpiaccpcmlfnaaDoor
open Go.RowKit Cal

theorem int_eq {k : IntKind} {a b : Int} (h : a = b) : Value.int k a = .int k b := by rw [h]
theorem ret2 {k k' : IntKind} {a b c d : Int} (h : a = b) (h' : c = d) : Ending.returned (.tuple #[.int k a, .int k' c]) = .returned (.tuple #[.int k b, .int k' d]) := by rw [h, h']

set_option maxHeartbeats 1000000 in
theorem Of_valid (y m d : Int) (w : World) (hT : Table w) (hv : Valid y m d) :
    Calls Tryd.prog 71 #[.int .i64 y, .int .i64 m, .int .i64 d] w fun e w' => e = .returned (.tuple #[.int .i64 (ofV y m d), .int .i64 (ofE y m d)]) ∧ w = w' := by
  obtain ⟨v1, v2, v3, v4, v5, v6⟩ := hv
  have b1 := ys_bd y v1 (by omega)
  have b2 := (len_bd y m).2
  by_cases hn : num y m d ≤ 1048575
  · have H := Lib.hid (of_yes v5 v6 hn)
    have HN := Lib.hid hn
    have HT := Lib.hid hT
    clear hn hT
    go_enter Tryd.func71, Tryd.ntmps71
    go_wp2_with (first | (go_at_call 70; refine (Length_any _ _ _ HT.out).mono ?_; rintro e w' ⟨rfl, rfl⟩) | (go_at_call 69; refine (yearStart_any _ _ (by omega) (by omega)).mono ?_; rintro e w' ⟨rfl, rfl⟩))
    go_loop [8, 26] (fun s i => ∃ k : Nat, (k : Int) ≤ m - 1 ∧ i = .int .i64 k ∧ s = .int .i64 (ys y + cum y (k + 1) + d - 1)) (fun _ i => (m - intOf i).toNat)
    case atStart => exact ⟨0, by omega, rfl, int_eq (by simp [cum_one])⟩
    case round =>
      obtain ⟨k, hk, rfl, rfl⟩ := hrel
      have c1 := cum_bd y (k + 1) (by omega) (by omega)
      by_cases hlt : (k : Int) < m - 1
      · have HS := Lib.hid (cum_succ y (k + 1) v1 v2 (by omega) (by omega))
        have l1 := len_bd y (k + 1)
        go_wp2_with (go_at_call 70; refine (Length_any _ _ _ HT.out).mono ?_; rintro e w' ⟨rfl, rfl⟩)
        go_round
        case rel => exact ⟨k + 1, by omega, by go_num, int_eq (by rw [show (((k + 1 : Nat) : Int) + 1) = (k : Int) + 1 + 1 from by omega, HS.out]; omega)⟩
        case measure => simp [intOf]; omega
      · have hk' : (k : Int) + 1 = m := by omega
        have hN : num y m d = ys y + cum y (k + 1) + d - 1 := by unfold num; rw [hk']
        have hle := HN.out; rw [hN] at hle
        have HN2 := Lib.hid hN
        clear hk' hN
        go_wp2_with (go_at_call 68; refine (isDay_yes _ _ (by omega) (by omega)).mono ?_; rintro e w' ⟨rfl, rfl⟩)
        go_ret2
        exact ⟨ret2 (by rw [H.out.1, HN2.out]) H.out.2.symm, rfl⟩
  · have H := Lib.hid (of_no (y := y) (m := m) (d := d) (by omega))
    have HN := Lib.hid hn
    have HT := Lib.hid hT
    clear hn hT
    go_enter Tryd.func71, Tryd.ntmps71
    go_wp2_with (first | (go_at_call 70; refine (Length_any _ _ _ HT.out).mono ?_; rintro e w' ⟨rfl, rfl⟩) | (go_at_call 69; refine (yearStart_any _ _ (by omega) (by omega)).mono ?_; rintro e w' ⟨rfl, rfl⟩))
    go_loop [8, 26] (fun s i => ∃ k : Nat, (k : Int) ≤ m - 1 ∧ i = .int .i64 k ∧ s = .int .i64 (ys y + cum y (k + 1) + d - 1)) (fun _ i => (m - intOf i).toNat)
    case atStart => exact ⟨0, by omega, rfl, int_eq (by simp [cum_one])⟩
    case round =>
      obtain ⟨k, hk, rfl, rfl⟩ := hrel
      have c1 := cum_bd y (k + 1) (by omega) (by omega)
      by_cases hlt : (k : Int) < m - 1
      · have HS := Lib.hid (cum_succ y (k + 1) v1 v2 (by omega) (by omega))
        have l1 := len_bd y (k + 1)
        go_wp2_with (go_at_call 70; refine (Length_any _ _ _ HT.out).mono ?_; rintro e w' ⟨rfl, rfl⟩)
        go_round
        case rel => exact ⟨k + 1, by omega, by go_num, int_eq (by rw [show (((k + 1 : Nat) : Int) + 1) = (k : Int) + 1 + 1 from by omega, HS.out]; omega)⟩
        case measure => simp [intOf]; omega
      · have hk' : (k : Int) + 1 = m := by omega
        have hN : num y m d = ys y + cum y (k + 1) + d - 1 := by unfold num; rw [hk']
        have hle := HN.out; rw [hN] at hle
        clear hk' hN
        go_wp2_with (go_at_call 68; refine (isDay_no _ _ (by omega)).mono ?_; rintro e w' ⟨rfl, rfl⟩)
        go_ret2
        exact ⟨ret2 H.out.1.symm H.out.2.symm, rfl⟩

theorem ofs_no {y m d : Int} (h : ¬ (1 ≤ d ∧ d ≤ len y m)) : ofV y m d = 0 ∧ ofE y m d = 2 := of_no (fun k => h ⟨k.1, k.2.1⟩)

set_option maxHeartbeats 1000000 in
theorem Of_any (y m d : Int) (w : World) (hT : Table w) :
    Calls Tryd.prog 71 #[.int .i64 y, .int .i64 m, .int .i64 d] w fun e w' => e = .returned (.tuple #[.int .i64 (ofV y m d), .int .i64 (ofE y m d)]) ∧ w = w' := by
  by_cases h1 : 1 ≤ d
  case neg =>
    have H := Lib.hid (ofs_no (y := y) (m := m) (d := d) (by omega))
    have h1' : d < 1 := by omega
    clear hT
    go_enter Tryd.func71, Tryd.ntmps71
    go_wp2
    go_ret2
    exact ⟨ret2 H.out.1.symm H.out.2.symm, rfl⟩
  by_cases h2 : d ≤ len y m
  case neg =>
    have H := Lib.hid (ofs_no (y := y) (m := m) (d := d) (by omega))
    have h2' : len y m < d := by omega
    have HT := Lib.hid hT
    clear hT
    go_enter Tryd.func71, Tryd.ntmps71
    go_wp2_with (go_at_call 70; refine (Length_any _ _ _ HT.out).mono ?_; rintro e w' ⟨rfl, rfl⟩)
    go_ret2
    exact ⟨ret2 H.out.1.symm H.out.2.symm, rfl⟩
  obtain ⟨a, b, c, e⟩ := of_len h1 h2
  exact Of_valid y m d w hT ⟨a, b, c, e, h1, h2⟩

set_option maxHeartbeats 1000000 in
theorem refOf_valid (y m d : Int) (w : World) (hv : Valid y m d) :
    Calls Tryd.prog 52 #[.int .i64 y, .int .i64 m, .int .i64 d] w fun e w' => e = .returned (.tuple #[.int .i64 (ofV y m d), .int .i64 (ofE y m d)]) ∧ w = w' := by
  obtain ⟨v1, v2, v3, v4, v5, v6⟩ := hv
  have b1 := ys_bd y v1 (by omega)
  have b2 := (len_bd y m).2
  by_cases hn : num y m d ≤ 1048575
  · have H := Lib.hid (of_yes v5 v6 hn)
    have HN := Lib.hid hn
    clear hn
    go_enter Tryd.func52, Tryd.ntmps52
    go_wp2_with (first | (go_at_call 58; refine (refLength_any _ _ _).mono ?_; rintro e w' ⟨rfl, rfl⟩) | (go_at_call 57; refine (before_any _ _ (by omega) (by omega)).mono ?_; rintro e w' ⟨rfl, rfl⟩))
    go_loop [8, 9] (fun s i => ∃ k : Int, 1 ≤ k ∧ k ≤ m ∧ i = .int .i64 k ∧ s = .int .i64 (ys y + cum y k + d - 1)) (fun _ i => (m - intOf i).toNat)
    case atStart => exact ⟨1, by omega, by omega, rfl, int_eq (by simp [cum_one])⟩
    case round =>
      obtain ⟨k, hk1, hk, rfl, rfl⟩ := hrel
      have c1 := cum_bd y k (by omega) (by omega)
      by_cases hlt : k < m
      · have HS := Lib.hid (cum_succ y k v1 v2 (by omega) (by omega))
        have l1 := len_bd y k
        go_wp2_with (go_at_call 58; refine (refLength_any _ _ _).mono ?_; rintro e w' ⟨rfl, rfl⟩)
        go_round
        case rel => exact ⟨k + 1, by omega, by omega, rfl, int_eq (by rw [HS.out]; omega)⟩
        case measure => simp [intOf]; omega
      · obtain rfl : k = m := by omega
        have hN : num y k d = ys y + cum y k + d - 1 := rfl
        have hle := HN.out; rw [hN] at hle
        clear hN
        go_wp2
        go_ret2
        exact ⟨ret2 (by rw [H.out.1]; rfl) H.out.2.symm, rfl⟩
  · have H := Lib.hid (of_no (y := y) (m := m) (d := d) (by omega))
    have HN := Lib.hid hn
    clear hn
    go_enter Tryd.func52, Tryd.ntmps52
    go_wp2_with (first | (go_at_call 58; refine (refLength_any _ _ _).mono ?_; rintro e w' ⟨rfl, rfl⟩) | (go_at_call 57; refine (before_any _ _ (by omega) (by omega)).mono ?_; rintro e w' ⟨rfl, rfl⟩))
    go_loop [8, 9] (fun s i => ∃ k : Int, 1 ≤ k ∧ k ≤ m ∧ i = .int .i64 k ∧ s = .int .i64 (ys y + cum y k + d - 1)) (fun _ i => (m - intOf i).toNat)
    case atStart => exact ⟨1, by omega, by omega, rfl, int_eq (by simp [cum_one])⟩
    case round =>
      obtain ⟨k, hk1, hk, rfl, rfl⟩ := hrel
      have c1 := cum_bd y k (by omega) (by omega)
      by_cases hlt : k < m
      · have HS := Lib.hid (cum_succ y k v1 v2 (by omega) (by omega))
        have l1 := len_bd y k
        go_wp2_with (go_at_call 58; refine (refLength_any _ _ _).mono ?_; rintro e w' ⟨rfl, rfl⟩)
        go_round
        case rel => exact ⟨k + 1, by omega, by omega, rfl, int_eq (by rw [HS.out]; omega)⟩
        case measure => simp [intOf]; omega
      · obtain rfl : k = m := by omega
        have hN : num y k d = ys y + cum y k + d - 1 := rfl
        have hle := HN.out; rw [hN] at hle
        have hle' : 1048575 < ys y + cum y k + d - 1 := by omega
        clear hN hle
        go_wp2
        go_ret2
        exact ⟨ret2 H.out.1.symm H.out.2.symm, rfl⟩

set_option maxHeartbeats 1000000 in
theorem refOf_any (y m d : Int) (w : World) :
    Calls Tryd.prog 52 #[.int .i64 y, .int .i64 m, .int .i64 d] w fun e w' => e = .returned (.tuple #[.int .i64 (ofV y m d), .int .i64 (ofE y m d)]) ∧ w = w' := by
  by_cases h1 : 1 ≤ d
  case neg =>
    have H := Lib.hid (ofs_no (y := y) (m := m) (d := d) (by omega))
    have h1' : d < 1 := by omega
    go_enter Tryd.func52, Tryd.ntmps52
    go_wp2
    go_ret2
    exact ⟨ret2 H.out.1.symm H.out.2.symm, rfl⟩
  by_cases h2 : d ≤ len y m
  case neg =>
    have H := Lib.hid (ofs_no (y := y) (m := m) (d := d) (by omega))
    have h2' : len y m < d := by omega
    go_enter Tryd.func52, Tryd.ntmps52
    go_wp2_with (go_at_call 58; refine (refLength_any _ _ _).mono ?_; rintro e w' ⟨rfl, rfl⟩)
    go_ret2
    exact ⟨ret2 H.out.1.symm H.out.2.symm, rfl⟩
  obtain ⟨a, b, c, e⟩ := of_len h1 h2
  exact refOf_valid y m d w ⟨a, b, c, e, h1, h2⟩

theorem ret4 {k : IntKind} {a b c d a' b' c' d' : Int} (h : a = a') (h1 : b = b') (h2 : c = c') (h3 : d = d') : Ending.returned (.tuple #[.int k a, .int k b, .int k c, .int k d]) = .returned (.tuple #[.int k a', .int k b', .int k c', .int k d']) := by rw [h, h1, h2, h3]

set_option maxHeartbeats 1000000 in
theorem Date_no (n : Int) (w : World) (h : n < 0 ∨ 1048575 < n) :
    Calls Tryd.prog 47 #[.int .i64 n] w fun e w' => e = .returned (.tuple #[.int .i64 0, .int .i64 0, .int .i64 0, .int .i64 2]) ∧ w = w' := by
  have H := Lib.hid h
  clear h
  go_enter Tryd.func47, Tryd.ntmps47
  go_wp2_with (go_at_call 68; refine (isDay_no _ _ H.out).mono ?_; rintro e w' ⟨rfl, rfl⟩)
  exact bodyPost_ret (v := .tuple #[.int .i64 0, .int .i64 0, .int .i64 0, .int .i64 2]) (by simp [results, Tryd.results47, go_sem]) rfl ⟨rfl, rfl⟩

set_option maxHeartbeats 1000000 in
theorem refDate_no (n : Int) (w : World) (h : n < 0 ∨ 1048575 < n) :
    Calls Tryd.prog 38 #[.int .i64 n] w fun e w' => e = .returned (.tuple #[.int .i64 0, .int .i64 0, .int .i64 0, .int .i64 2]) ∧ w = w' := by
  have H := Lib.hid h
  clear h
  go_enter Tryd.func38, Tryd.ntmps38
  go_wp2_with (go_at_call 50; refine (good_no _ _ H.out).mono ?_; rintro e w' ⟨rfl, rfl⟩)
  exact bodyPost_ret (v := .tuple #[.int .i64 0, .int .i64 0, .int .i64 0, .int .i64 2]) (by simp [results, Tryd.results38, go_sem]) rfl ⟨rfl, rfl⟩

/-- A year that begins not behind a day of year y is not later. -/
theorem year_le {n y Y : Int} (h : ys Y ≤ n) (h' : n < ys (y + 1)) : Y ≤ y := by
  rcases (show y < Y ∨ Y ≤ y by omega) with l | l
  · have := ys_mono (y + 1) Y (by omega); omega
  · exact l

set_option maxHeartbeats 2000000 in
theorem Date_is (n y m d : Int) (w : World) (hT : Table w) (h1 : 0 ≤ n) (h2 : n ≤ 1048575) (h : IsDate n y m d) :
    Calls Tryd.prog 47 #[.int .i64 n] w fun e w' => e = .returned (.tuple #[.int .i64 y, .int .i64 m, .int .i64 d, .int .i64 0]) ∧ w = w' := by
  have hy := num_year h.1
  rw [h.2] at hy
  obtain ⟨hy1, hy2⟩ := hy
  obtain ⟨⟨v1, v2, v3, v4, v5, v6⟩, hnum⟩ := h
  have hd : n - ys y - cum y m + 1 = d := by unfold num at hnum; omega
  have HD := Lib.hid hd
  have HG := Lib.hid (year_le (guess n h1) hy2)
  have HT := Lib.hid hT
  have b1 := ys_bd y v1 (by omega)
  clear hT hnum hd
  go_enter Tryd.func47, Tryd.ntmps47
  go_wp2_with (first | (go_at_call 68; refine (isDay_yes _ _ (by omega) (by omega)).mono ?_; rintro e w' ⟨rfl, rfl⟩))
  go_loop [2] (fun t => ∃ Y : Int, 1600 ≤ Y ∧ Y ≤ y ∧ t = .int .i64 Y) (fun t => (y - intOf t).toNat)
  case atStart => exact ⟨_, by omega, HG.out, rfl⟩
  case round =>
    obtain ⟨Y, hY1, hY2, rfl⟩ := hrel
    by_cases hlt : Y < y
    · have hm := ys_mono (Y + 1) y (by omega)
      go_wp2_with (go_at_call 69; refine (yearStart_any _ _ (by omega) (by omega)).mono ?_; rintro e w' ⟨rfl, rfl⟩)
      go_round
      case rel => exact ⟨Y + 1, by omega, by omega, rfl⟩
      case measure => simp [intOf]; omega
    · obtain rfl : Y = y := by omega
      go_wp2_with (go_at_call 69; refine (yearStart_any _ _ (by omega) (by omega)).mono ?_; rintro e w' ⟨rfl, rfl⟩)
      go_loop [3, 4] (fun k r => ∃ M : Int, 1 ≤ M ∧ M ≤ m ∧ k = .int .i64 M ∧ r = .int .i64 (n - ys Y - cum Y M + 1)) (fun k _ => (m - intOf k).toNat)
      case atStart => exact ⟨1, by omega, by omega, rfl, int_eq (by rw [cum_one]; omega)⟩
      case round =>
        obtain ⟨M, hM1, hM2, rfl, rfl⟩ := hrel
        have c1 := cum_bd Y M (by omega) (by omega)
        have l1 := len_bd Y M
        by_cases hml : M < m
        · have hs := cum_succ Y M v1 v2 (by omega) (by omega)
          have hle := cum_le Y (M + 1) m v1 v2 (by omega) (by omega) (by omega)
          have hd := HD.out
          have hgt : len Y M < n - ys Y - cum Y M + 1 := by omega
          have HS := Lib.hid hs
          clear hs hle hd
          go_wp2_with (go_at_call 70; refine (Length_any _ _ _ HT.out).mono ?_; rintro e w' ⟨rfl, rfl⟩)
          go_round
          case rel => exact ⟨M + 1, by omega, by omega, rfl, int_eq (by rw [HS.out]; omega)⟩
          case measure => simp [intOf]; omega
        · obtain rfl : M = m := by omega
          have hd := HD.out
          have hle : n - ys Y - cum Y M + 1 ≤ len Y M := by omega
          clear hd
          go_wp2_with (go_at_call 70; refine (Length_any _ _ _ HT.out).mono ?_; rintro e w' ⟨rfl, rfl⟩)
          exact bodyPost_ret (v := .tuple #[.int .i64 Y, .int .i64 M, .int .i64 (n - ys Y - cum Y M + 1), .int .i64 0]) (by simp [results, Tryd.results47, go_sem]) rfl ⟨ret4 rfl rfl HD.out rfl, rfl⟩

set_option maxHeartbeats 2000000 in
theorem refDate_is (n y m d : Int) (w : World) (h1 : 0 ≤ n) (h2 : n ≤ 1048575) (h : IsDate n y m d) :
    Calls Tryd.prog 38 #[.int .i64 n] w fun e w' => e = .returned (.tuple #[.int .i64 y, .int .i64 m, .int .i64 d, .int .i64 0]) ∧ w = w' := by
  have hy := num_year h.1
  rw [h.2] at hy
  obtain ⟨hy1, hy2⟩ := hy
  obtain ⟨⟨v1, v2, v3, v4, v5, v6⟩, hnum⟩ := h
  have hd : n - ys y - cum y m + 1 = d := by unfold num at hnum; omega
  have HD := Lib.hid hd
  have HG := Lib.hid (year_le (guess n h1) hy2)
  have b1 := ys_bd y v1 (by omega)
  clear hnum hd
  go_enter Tryd.func38, Tryd.ntmps38
  go_wp2_with (first | (go_at_call 50; refine (good_yes _ _ (by omega) (by omega)).mono ?_; rintro e w' ⟨rfl, rfl⟩))
  go_loop [6] (fun t => ∃ Y : Int, 1600 ≤ Y ∧ Y ≤ y ∧ t = .int .i64 Y) (fun t => (y - intOf t).toNat)
  case atStart => exact ⟨_, by omega, HG.out, rfl⟩
  case round =>
    obtain ⟨Y, hY1, hY2, rfl⟩ := hrel
    by_cases hlt : Y < y
    · have hm := ys_mono (Y + 1) y (by omega)
      go_wp2_with (go_at_call 57; refine (before_any _ _ (by omega) (by omega)).mono ?_; rintro e w' ⟨rfl, rfl⟩)
      go_round
      case rel => exact ⟨Y + 1, by omega, by omega, rfl⟩
      case measure => simp [intOf]; omega
    · obtain rfl : Y = y := by omega
      go_wp2_with (go_at_call 57; refine (before_any _ _ (by omega) (by omega)).mono ?_; rintro e w' ⟨rfl, rfl⟩)
      go_loop [7, 0] (fun k r => ∃ M : Int, 1 ≤ M ∧ M ≤ m ∧ k = .int .i64 M ∧ r = .int .i64 (n - ys Y - cum Y M)) (fun k _ => (m - intOf k).toNat)
      case atStart => exact ⟨1, by omega, by omega, rfl, int_eq (by rw [cum_one]; omega)⟩
      case round =>
        obtain ⟨M, hM1, hM2, rfl, rfl⟩ := hrel
        have c1 := cum_bd Y M (by omega) (by omega)
        have l1 := len_bd Y M
        by_cases hml : M < m
        · have hs := cum_succ Y M v1 v2 (by omega) (by omega)
          have hle := cum_le Y (M + 1) m v1 v2 (by omega) (by omega) (by omega)
          have hd := HD.out
          have hgt : len Y M ≤ n - ys Y - cum Y M := by omega
          have HS := Lib.hid hs
          clear hs hle hd
          go_wp2_with (go_at_call 58; refine (refLength_any _ _ _).mono ?_; rintro e w' ⟨rfl, rfl⟩)
          go_round
          case rel => exact ⟨M + 1, by omega, by omega, rfl, int_eq (by rw [HS.out]; omega)⟩
          case measure => simp [intOf]; omega
        · obtain rfl : M = m := by omega
          have hd := HD.out
          have hle : n - ys Y - cum Y M < len Y M := by omega
          clear hd
          go_wp2_with (go_at_call 58; refine (refLength_any _ _ _).mono ?_; rintro e w' ⟨rfl, rfl⟩)
          exact bodyPost_ret (v := .tuple #[.int .i64 Y, .int .i64 M, .int .i64 (n - ys Y - cum Y M + 1), .int .i64 0]) (by simp [results, Tryd.results38, go_sem]) rfl ⟨ret4 rfl rfl HD.out rfl, rfl⟩

end Go.Proofs.YtjpiaccpcmlfnaaDoor
