/-
  PROVED HERE: the law archivumlaw02.DayCycle answers true for every day number: 146097 days later the date is the same but for a year that is greater by 400, and the day of the week is the same. Condition: the package variable archivum/day.lengths holds what the program's text lays in it (the card ties that). Every int is spoken of.
-/
import Derived.Test.YtojmolemhdonfabDoorKit
namespace Go.Proofs.YtojmolemhdonfabDoor
open Go.ChangeShapes Go.WideShapes Go.ChangeAt Go.RowKit Cal

theorem len_400 {y m : Int} (a : 1600 ≤ y) (b : y ≤ 4070) (c : 1 ≤ m) (d : m ≤ 12) : len (y + 400) m = len y m := by
  rw [len_in y m a (by omega) c d, len_in (y + 400) m (by omega) (by omega) c d, lp_400]
theorem is_400 {n y m d : Int} (h : IsDate n y m d) (hn : n ≤ 902478) : IsDate (n + 146097) (y + 400) m d := by
  have hy := num_year h.1
  rw [h.2] at hy
  obtain ⟨⟨a, b, c, e, f, g⟩, k⟩ := h
  have s := ys_400 y
  have hle : y + 400 ≤ 4470 := by
    rcases (show y + 400 ≤ 4470 ∨ 4471 ≤ y + 400 by omega) with l | l
    · exact l
    · have := ys_mono 4471 (y + 400) l; rw [ys_4471] at this; omega
  have l400 := len_400 a (by omega) c e
  refine ⟨⟨by omega, hle, c, e, f, by omega⟩, ?_⟩
  have hc : cum (y + 400) m = cum y m := by unfold cum; rw [lp_400]
  unfold num at *
  omega

set_option maxHeartbeats 1000000 in
theorem cycle_any (n : Int) (w : World) (hT : Table w) :
    Calls Tryd.prog 7 #[.int .i64 n] w fun e w' => e = .returned (.bool true) ∧ Below w.heap.size w w' := by
  have HT := Lib.hid hT
  clear hT
  by_cases h1 : 0 ≤ n
  case neg =>
    have h1' : n < 0 := by omega
    clear h1
    go_enter Tryd.func7, Tryd.ntmps7
    go_wp2_with fail
    refine (awake_true w HT.out).mono ?_
    rintro e w1 ⟨rfl, hb⟩
    go_wp2
    go_ret
    exact ⟨rfl, hb⟩
  by_cases h2 : n ≤ 902478
  case neg =>
    have h2' : 902478 < n := by omega
    clear h2
    go_enter Tryd.func7, Tryd.ntmps7
    go_wp2_with fail
    refine (awake_true w HT.out).mono ?_
    rintro e w1 ⟨rfl, hb⟩
    go_wp2
    go_ret
    exact ⟨rfl, hb⟩
  obtain ⟨y, m, d, hI⟩ := date_exists n h1 (by omega)
  have HI := Lib.hid hI
  have HJ := Lib.hid (is_400 hI h2)
  obtain ⟨y1, y2, _⟩ := hI.1
  have hw : ((n + 5) % 7 == (n + 146097 + 5) % 7) = true := by simp; omega
  clear hI
  go_enter Tryd.func7, Tryd.ntmps7
  go_wp2_with fail
  refine (awake_true w HT.out).mono ?_
  rintro e w1 ⟨rfl, hb⟩
  have HT1 := Lib.hid (HT.out.below hb)
  go_wp2_with fail
  refine (Date_is n y m d w1 HT1.out (by omega) (by omega) HI.out).mono ?_
  rintro e w' ⟨rfl, rfl⟩
  go_wp2_with fail
  refine (Date_is (n + 146097) (y + 400) m d w1 HT1.out (by omega) (by omega) HJ.out).mono ?_
  rintro e w' ⟨rfl, rfl⟩
  go_wp2_with fail
  refine (Weekday_yes n w1 (by omega) (by omega)).mono ?_
  rintro e w' ⟨rfl, rfl⟩
  go_wp2_with fail
  refine (Weekday_yes (n + 146097) w1 (by omega) (by omega)).mono ?_
  rintro e w' ⟨rfl, rfl⟩
  go_wp2
  go_ret
  exact ⟨rfl, hb⟩


set_option maxRecDepth 100000 in
theorem cycle_lifted (os : Os) (started : os.Started) (H : Type) (enc : TypeId × Value → H) :
    ReturnsInHanded {} Tryd.checked os 7 .any (fun w args => (Rows.dayCycleSpec.pre enc Tryd.prog Tryd.f7 [] false w args ∧ laidMetH Tryd.prog laid1 w) ∧ sizedMet enc Tryd.prog Tryd.f7 (OpenSpec.ofChange Rows.dayCycleSpec) false w args)
      (Rows.dayCycleSpec.post enc Tryd.prog Tryd.f7 false true false false) := by
  refine returnsInHanded_of_change_and (C := Tryd.checked) (X := fun w _ => laidMetH Tryd.prog laid1 w) (fun _ _ _ hh h => h.of_heap hh) own started (by kernel_rfl) Tryd.func7
    (ChangeSpec.witness_shaped (enc := enc) (C := Tryd.checked) (os := os) (X := fun w _ => laidMetH Tryd.prog laid1 w) false (World.doorLaid Tryd.prog 400 os) #[.int .i64 0] 8 rfl (World.shaped_of_RefB (by kernel_rfl) (by kernel_rfl)) (by kernel_rfl) (by kernel_rfl) (by kernel_rfl) (door_met os _)) ?_
  intro W base args ds gs before hval0 hW _ _ hL _
  have hval : ∀ (j : Nat) t v, Tryd.f7.params[j]? = some t → args[j]? = some v → Value.okWide Tryd.prog W .any base t v := hval0
  have hW' := hW
  obtain ⟨p, q, hA0, hV, rfl, hfz, hnd⟩ := hW
  have hA : DataW.TrodAll enc Tryd.prog W 0 (fun _ => true) true Tryd.f7.params.toList args.toList ds p := hA0
  rw [Tryd.params7] at hA hval
  obtain ⟨v0, d0, rfl, rfl, h0⟩ := trodAll_one hA
  obtain ⟨rfl, rfl⟩ := trodVars_none hV
  obtain ⟨n, rfl, rfl, rfl, wn⟩ := open_int Tryd.underlying3 (hval 0 3 v0 rfl rfl) h0
  refine (cycle_any n W (table_of_laid hL)).mono fun e W' ⟨he, hb⟩ => ?_
  subst he
  exact ⟨_, rfl, post_true rfl rfl (by kernel_rfl) hW' rfl hb⟩

theorem cycle_said : Rows.DayCycleSaid :=
  OpenClaim.holds_of_wide 7 Tryd.f7 rfl rfl rfl rfl rfl rfl rfl ⟨rfl, rfl, rfl, rfl, rfl⟩ rfl rfl rfl rfl rfl (by kernel_rfl) Tryd.func7 (by kernel_rfl)
    (of_decide_eq_true (by kernel_rfl)) (by unfold Func.isWrapper; first | (rw [if_pos (by decide +kernel)]; kernel_rfl) | (rw [if_neg (by decide +kernel)]; exact ⟨rfl, rfl⟩))
    (fun os started H enc _ => cycle_lifted os started H enc)

theorem cycle_holds : Rows.DayCycleCardSaid :=
  Claim7.holds_tied_plain_at .later [] [.data] true (true, "a8739655e9557d7c018a4fd303c4d1567818996deea4156720fd0d785a0dfc65") false
    cycle_said (fun _ h => by cases h) (by kernel_rfl) (fun _ h => by cases h) dayCycle_row_tie rfl ⟨rfl, rfl⟩ (by kernel_rfl) rfl
    (fun f fn hf hfn => by
      obtain rfl : f = 7 := Option.some.inj ((show Tryd.prog.funcNamed "archivum/archivumlaw02.DayCycle" = some 7 by kernel_rfl).symm.trans hf) |>.symm
      obtain rfl : fn = Tryd.f7 := (Option.some.inj (Tryd.func7.symm.trans hfn)).symm
      exact ⟨by kernel_rfl, fun j t ht => by
        rw [Tryd.params7] at ht
        have hm : t ∈ [3] := by simpa using Array.mem_of_getElem? ht
        have hall : ([3].all fun u => !Tryd.prog.wantsStandIn u) = true := by kernel_rfl
        exact (show Tryd.prog.wantsStandIn t = false by simpa using List.all_eq_true.1 hall t hm)⟩)
    (by kernel_rfl)
#print axioms cycle_holds

end Go.Proofs.YtojmolemhdonfabDoor
