/-
  PROVED HERE: the law archivumlaw02.DayNext answers true for every number: the day behind a day has the next date and the next day of the week, and what is no day has no date. Condition: the package variable archivum/day.lengths holds what the program's text lays in it (the card ties that). Every int is spoken of.
-/
import Derived.Test.YtojmolemhdonfabDoorKit
namespace Go.Proofs.YtojmolemhdonfabDoor
open Go.ChangeShapes Go.WideShapes Go.ChangeAt Go.RowKit Cal

theorem next_same {n y m d : Int} (h : IsDate n y m d) (hd : d < len y m) : IsDate (n + 1) y m (d + 1) := by
  obtain ⟨⟨a, b, c, e, f, g⟩, k⟩ := h
  exact ⟨⟨a, b, c, e, by omega, by omega⟩, by unfold num at *; omega⟩
theorem next_month {n y m d : Int} (h : IsDate n y m d) (hd : d = len y m) (hm : m < 12) : IsDate (n + 1) y (m + 1) 1 := by
  obtain ⟨⟨a, b, c, e, f, g⟩, k⟩ := h
  have := cum_succ y m a b c e
  have := len_lo y (m + 1) a b (by omega) (by omega)
  exact ⟨⟨a, b, by omega, by omega, by omega, by omega⟩, by unfold num at *; omega⟩
theorem next_year {n y m d : Int} (h : IsDate n y m d) (hn : n < 1048575) (hd : d = len y m) (hm : m = 12) : IsDate (n + 1) (y + 1) 1 1 := by
  obtain ⟨⟨a, b, c, e, f, g⟩, k⟩ := h
  subst hm
  have h1 := cum_succ y 12 a b c e
  rw [show (12 : Int) + 1 = 13 from rfl, cum_13] at h1
  have h2 := ys_succ y
  have h3 : ys (y + 1) = n + 1 := by unfold num at k; omega
  have hle : y + 1 ≤ 4470 := by
    rcases (show y + 1 ≤ 4470 ∨ 4471 ≤ y + 1 by omega) with l | l
    · exact l
    · have := ys_mono 4471 (y + 1) l; rw [ys_4471] at this; omega
  have := len_lo (y + 1) 1 (by omega) hle (by omega) (by omega)
  exact ⟨⟨by omega, hle, by omega, by omega, by omega, by omega⟩, by unfold num; rw [cum_one]; omega⟩

set_option maxRecDepth 100000 in
set_option maxHeartbeats 2000000 in
theorem next_any (n : Int) (w : World) (hT : Table w) (hlo : -9223372036854775808 ≤ n) (hhi : n ≤ 9223372036854775807) :
    Calls Tryd.prog 6 #[.int .i64 n] w fun e w' => e = .returned (.bool true) ∧ Below w.heap.size w w' := by
  have HT := Lib.hid hT
  clear hT
  by_cases a : n < -1
  · clear hhi
    go_enter Tryd.func6, Tryd.ntmps6
    go_wp2_with fail
    refine (awake_true w HT.out).mono ?_
    rintro e w1 ⟨rfl, hb⟩
    go_wp2_with fail
    refine (Date_no n w1 (by omega)).mono ?_
    rintro e w' ⟨rfl, rfl⟩
    go_wp2_with fail
    refine (Date_no _ w1 (by omega)).mono ?_
    rintro e w' ⟨rfl, rfl⟩
    go_wp2
    go_ret
    exact ⟨rfl, hb⟩
  by_cases b : n = -1
  · subst b
    go_enter Tryd.func6, Tryd.ntmps6
    go_wp2_with fail
    refine (awake_true w HT.out).mono ?_
    rintro e w1 ⟨rfl, hb⟩
    have HT1 := Lib.hid (HT.out.below hb)
    go_wp2_with fail
    refine (Date_no _ w1 (by omega)).mono ?_
    rintro e w' ⟨rfl, rfl⟩
    go_wp2_with fail
    refine (Date_is 0 1600 1 1 w1 HT1.out (by omega) (by omega) dayFirst).mono ?_
    rintro e w' ⟨rfl, rfl⟩
    go_wp2
    go_ret
    exact ⟨rfl, hb⟩
  have h0 : 0 ≤ n := by omega
  clear a b hlo
  by_cases c : 1048575 < n
  · have hw : wrap64 (n + 1) < 0 ∨ 1048575 < wrap64 (n + 1) := by unfold wrap64; omega
    have HW := Lib.hid hw
    clear hw
    by_cases hm : n = 9223372036854775807
    · have HM := Lib.hid hm
      clear hm
      go_enter Tryd.func6, Tryd.ntmps6
      go_wp2_with fail
      refine (awake_true w HT.out).mono ?_
      rintro e w1 ⟨rfl, hb⟩
      go_wp2_with fail
      refine (Date_no n w1 (by omega)).mono ?_
      rintro e w' ⟨rfl, rfl⟩
      go_wp2_with fail
      refine (Date_no _ w1 HW.out).mono ?_
      rintro e w' ⟨rfl, rfl⟩
      go_wp2
      go_ret
      exact ⟨ret_bool (by simp; omega), hb⟩
    · have hm' : n ≤ 9223372036854775806 := by omega
      clear hm hhi
      go_enter Tryd.func6, Tryd.ntmps6
      go_wp2_with fail
      refine (awake_true w HT.out).mono ?_
      rintro e w1 ⟨rfl, hb⟩
      go_wp2_with fail
      refine (Date_no n w1 (by omega)).mono ?_
      rintro e w' ⟨rfl, rfl⟩
      go_wp2_with fail
      refine (Date_no _ w1 (by omega)).mono ?_
      rintro e w' ⟨rfl, rfl⟩
      go_wp2
      go_ret
      exact ⟨ret_bool (by simp; omega), hb⟩
  have h1 : n ≤ 1048575 := by omega
  clear c hhi
  by_cases d : n = 1048575
  · subst d
    go_enter Tryd.func6, Tryd.ntmps6
    go_wp2_with fail
    refine (awake_true w HT.out).mono ?_
    rintro e w1 ⟨rfl, hb⟩
    have HT1 := Lib.hid (HT.out.below hb)
    go_wp2_with fail
    refine (Date_is 1048575 4470 11 25 w1 HT1.out (by omega) (by omega) dayLast).mono ?_
    rintro e w' ⟨rfl, rfl⟩
    go_wp2_with fail
    refine (Date_no _ w1 (by omega)).mono ?_
    rintro e w' ⟨rfl, rfl⟩
    go_wp2
    go_ret
    exact ⟨rfl, hb⟩
  have h2 : n < 1048575 := by omega
  clear h1 d
  obtain ⟨y, m, d, hI⟩ := date_exists n h0 (by omega)
  have HI := Lib.hid hI
  obtain ⟨y1, y2, m1, m2, d1, d2⟩ := hI.1
  have b3 := (len_bd y m).2
  have hw : ((n + 1 + 5) % 7 != ((n + 5) % 7 + 1) % 7) = false := by simp; omega
  by_cases s : d < len y m
  · have HJ := Lib.hid (next_same hI s)
    clear hI
    go_enter Tryd.func6, Tryd.ntmps6
    go_wp2_with fail
    refine (awake_true w HT.out).mono ?_
    rintro e w1 ⟨rfl, hb⟩
    have HT1 := Lib.hid (HT.out.below hb)
    go_wp2_with fail
    refine (Date_is n y m d w1 HT1.out (by omega) (by omega) HI.out).mono ?_
    rintro e w' ⟨rfl, rfl⟩
    go_wp2_with fail
    refine (Date_is (n + 1) y m (d + 1) w1 HT1.out (by omega) (by omega) HJ.out).mono ?_
    rintro e w' ⟨rfl, rfl⟩
    go_wp2_with fail
    refine (Weekday_yes n w1 (by omega) (by omega)).mono ?_
    rintro e w' ⟨rfl, rfl⟩
    go_wp2_with fail
    refine (Weekday_yes (n + 1) w1 (by omega) (by omega)).mono ?_
    rintro e w' ⟨rfl, rfl⟩
    go_wp2_with fail
    refine (Length_any y m w1 HT1.out).mono ?_
    rintro e w' ⟨rfl, rfl⟩
    go_wp2
    go_ret
    exact ⟨rfl, hb⟩
  have s' : ¬ d < len y m := s
  have s2 : d = len y m := by omega
  by_cases t : m < 12
  · have HJ := Lib.hid (next_month hI s2 t)
    clear hI s2
    go_enter Tryd.func6, Tryd.ntmps6
    go_wp2_with fail
    refine (awake_true w HT.out).mono ?_
    rintro e w1 ⟨rfl, hb⟩
    have HT1 := Lib.hid (HT.out.below hb)
    go_wp2_with fail
    refine (Date_is n y m d w1 HT1.out (by omega) (by omega) HI.out).mono ?_
    rintro e w' ⟨rfl, rfl⟩
    go_wp2_with fail
    refine (Date_is (n + 1) y (m + 1) 1 w1 HT1.out (by omega) (by omega) HJ.out).mono ?_
    rintro e w' ⟨rfl, rfl⟩
    go_wp2_with fail
    refine (Weekday_yes n w1 (by omega) (by omega)).mono ?_
    rintro e w' ⟨rfl, rfl⟩
    go_wp2_with fail
    refine (Weekday_yes (n + 1) w1 (by omega) (by omega)).mono ?_
    rintro e w' ⟨rfl, rfl⟩
    go_wp2_with fail
    refine (Length_any y m w1 HT1.out).mono ?_
    rintro e w' ⟨rfl, rfl⟩
    go_wp2
    go_ret
    exact ⟨rfl, hb⟩
  · have HJ := Lib.hid (next_year hI h2 s2 (by omega))
    clear hI s2
    go_enter Tryd.func6, Tryd.ntmps6
    go_wp2_with fail
    refine (awake_true w HT.out).mono ?_
    rintro e w1 ⟨rfl, hb⟩
    have HT1 := Lib.hid (HT.out.below hb)
    go_wp2_with fail
    refine (Date_is n y m d w1 HT1.out (by omega) (by omega) HI.out).mono ?_
    rintro e w' ⟨rfl, rfl⟩
    go_wp2_with fail
    refine (Date_is (n + 1) (y + 1) 1 1 w1 HT1.out (by omega) (by omega) HJ.out).mono ?_
    rintro e w' ⟨rfl, rfl⟩
    go_wp2_with fail
    refine (Weekday_yes n w1 (by omega) (by omega)).mono ?_
    rintro e w' ⟨rfl, rfl⟩
    go_wp2_with fail
    refine (Weekday_yes (n + 1) w1 (by omega) (by omega)).mono ?_
    rintro e w' ⟨rfl, rfl⟩
    go_wp2_with fail
    refine (Length_any y m w1 HT1.out).mono ?_
    rintro e w' ⟨rfl, rfl⟩
    go_wp2
    go_ret
    exact ⟨rfl, hb⟩

set_option maxRecDepth 100000 in
theorem next_lifted (os : Os) (started : os.Started) (H : Type) (enc : TypeId × Value → H) :
    ReturnsInHanded {} Tryd.checked os 6 .any (fun w args => (Rows.dayNextSpec.pre enc Tryd.prog Tryd.f6 [] false w args ∧ laidMetH Tryd.prog laid1 w) ∧ sizedMet enc Tryd.prog Tryd.f6 (OpenSpec.ofChange Rows.dayNextSpec) false w args)
      (Rows.dayNextSpec.post enc Tryd.prog Tryd.f6 false true false false) := by
  refine returnsInHanded_of_change_and (C := Tryd.checked) (X := fun w _ => laidMetH Tryd.prog laid1 w) (fun _ _ _ hh h => h.of_heap hh) own started (by kernel_rfl) Tryd.func6
    (ChangeSpec.witness_shaped (enc := enc) (C := Tryd.checked) (os := os) (X := fun w _ => laidMetH Tryd.prog laid1 w) false (World.doorLaid Tryd.prog 400 os) #[.int .i64 0] 8 rfl (World.shaped_of_RefB (by kernel_rfl) (by kernel_rfl)) (by kernel_rfl) (by kernel_rfl) (by kernel_rfl) (door_met os _)) ?_
  intro W base args ds gs before hval0 hW _ _ hL _
  have hval : ∀ (j : Nat) t v, Tryd.f6.params[j]? = some t → args[j]? = some v → Value.okWide Tryd.prog W .any base t v := hval0
  have hW' := hW
  obtain ⟨p, q, hA0, hV, rfl, hfz, hnd⟩ := hW
  have hA : DataW.TrodAll enc Tryd.prog W 0 (fun _ => true) true Tryd.f6.params.toList args.toList ds p := hA0
  rw [Tryd.params6] at hA hval
  obtain ⟨v0, d0, rfl, rfl, h0⟩ := trodAll_one hA
  obtain ⟨rfl, rfl⟩ := trodVars_none hV
  obtain ⟨n, rfl, rfl, rfl, wn⟩ := open_int Tryd.underlying3 (hval 0 3 v0 rfl rfl) h0
  have bd := wn; simp only [Lit.wf, Bool.and_eq_true, decide_eq_true_eq] at bd
  refine (next_any n W (table_of_laid hL) bd.1 bd.2).mono fun e W' ⟨he, hb⟩ => ?_
  subst he
  exact ⟨_, rfl, post_true rfl rfl (by kernel_rfl) hW' rfl hb⟩

theorem next_said : Rows.DayNextSaid :=
  OpenClaim.holds_of_wide 6 Tryd.f6 rfl rfl rfl rfl rfl rfl rfl ⟨rfl, rfl, rfl, rfl, rfl⟩ rfl rfl rfl rfl rfl (by kernel_rfl) Tryd.func6 (by kernel_rfl)
    (of_decide_eq_true (by kernel_rfl)) (by unfold Func.isWrapper; first | (rw [if_pos (by decide +kernel)]; kernel_rfl) | (rw [if_neg (by decide +kernel)]; exact ⟨rfl, rfl⟩))
    (fun os started H enc _ => next_lifted os started H enc)

theorem next_holds : Rows.DayNextCardSaid :=
  Claim7.holds_tied_plain_at .later [] [.data] true (true, "a8739655e9557d7c018a4fd303c4d1567818996deea4156720fd0d785a0dfc65") false
    next_said (fun _ h => by cases h) (by kernel_rfl) (fun _ h => by cases h) dayNext_row_tie rfl ⟨rfl, rfl⟩ (by kernel_rfl) rfl
    (fun f fn hf hfn => by
      obtain rfl : f = 6 := Option.some.inj ((show Tryd.prog.funcNamed "archivum/archivumlaw02.DayNext" = some 6 by kernel_rfl).symm.trans hf) |>.symm
      obtain rfl : fn = Tryd.f6 := (Option.some.inj (Tryd.func6.symm.trans hfn)).symm
      exact ⟨by kernel_rfl, fun j t ht => by
        rw [Tryd.params6] at ht
        have hm : t ∈ [3] := by simpa using Array.mem_of_getElem? ht
        have hall : ([3].all fun u => !Tryd.prog.wantsStandIn u) = true := by kernel_rfl
        exact (show Tryd.prog.wantsStandIn t = false by simpa using List.all_eq_true.1 hall t hm)⟩)
    (by kernel_rfl)
#print axioms next_holds
end Go.Proofs.YtojmolemhdonfabDoor
