/-
  PROVED HERE: the law archivumlaw02.DayLater answers true for every four numbers: Length, Years and YearEnd answer as the reference implementation does, values and errors. Condition: the package variable archivum/day.lengths holds what the program's text lays in it (the card ties that). Every int is spoken of.
-/
import Derived.Test.YtojmolemhdonfabDoorKit
namespace Go.Proofs.YtojmolemhdonfabDoor
open Go.ChangeShapes Go.WideShapes Go.ChangeAt Go.RowKit Cal

set_option maxRecDepth 100000 in
set_option maxHeartbeats 2000000 in
/-- The walk behind the example: code and reference give the same plain numbers. -/
theorem later_in (Y M n k x ex t et : Int) (w : World) (hT : Table w)
    (C1 : ∀ w, Table w → Calls Tryd.prog 17 #[.int .i64 n, .int .i64 k] w fun e w' => e = .returned (.tuple #[.int .i64 x, .int .i64 ex]) ∧ w = w')
    (C2 : ∀ w, Calls Tryd.prog 18 #[.int .i64 n, .int .i64 k] w fun e w' => e = .returned (.tuple #[.int .i64 x, .int .i64 ex]) ∧ w = w')
    (C3 : ∀ w, Table w → Calls Tryd.prog 19 #[.int .i64 n] w fun e w' => e = .returned (.tuple #[.int .i64 t, .int .i64 et]) ∧ w = w')
    (C4 : ∀ w, Calls Tryd.prog 20 #[.int .i64 n] w fun e w' => e = .returned (.tuple #[.int .i64 t, .int .i64 et]) ∧ w = w') :
    Calls Tryd.prog 4 #[.int .i64 Y, .int .i64 M, .int .i64 n, .int .i64 k] w fun e w' => e = .returned (.bool true) ∧ Below w.heap.size w w' := by
  have HT := Lib.hid hT
  have D1 := Lib.hid C1; have D2 := Lib.hid C2; have D3 := Lib.hid C3; have D4 := Lib.hid C4
  clear hT C1 C2 C3 C4
  go_enter Tryd.func4, Tryd.ntmps4
  go_wp2_with fail
  refine (awake_true w HT.out).mono ?_
  rintro e w1 ⟨rfl, hb⟩
  have HT1 := Lib.hid (HT.out.below hb)
  go_wp2_with fail
  refine (D1.out w1 HT1.out).mono ?_
  rintro e w' ⟨rfl, rfl⟩
  go_wp2_with fail
  refine (D2.out w1).mono ?_
  rintro e w' ⟨rfl, rfl⟩
  go_wp2_with fail
  refine (D3.out w1 HT1.out).mono ?_
  rintro e w' ⟨rfl, rfl⟩
  go_wp2_with fail
  refine (D4.out w1).mono ?_
  rintro e w' ⟨rfl, rfl⟩
  go_wp2_with fail
  refine (Length_any Y M w1 HT1.out).mono ?_
  rintro e w' ⟨rfl, rfl⟩
  go_wp2_with fail
  refine (refLength_any Y M w1).mono ?_
  rintro e w' ⟨rfl, rfl⟩
  go_wp2
  go_ret
  exact ⟨rfl, hb⟩

theorem later_any (Y M n k : Int) (w : World) (hT : Table w) :
    Calls Tryd.prog 4 #[.int .i64 Y, .int .i64 M, .int .i64 n, .int .i64 k] w fun e w' => e = .returned (.bool true) ∧ Below w.heap.size w w' := by
  by_cases h : n < 0 ∨ 1048575 < n
  · exact later_in Y M n k 0 2 0 2 w hT (fun w h' => Years_no n k w h' (by omega)) (fun w => refYears_no n k w (by omega)) (fun w _ => YearEnd_no n w h) (fun w => refYearEnd_no n w h)
  obtain ⟨y, m, d, hI⟩ := date_exists n (by omega) (by omega)
  by_cases g : k < 0 ∨ 200 < k
  · exact later_in Y M n k 0 2 _ 0 w hT (fun w h' => Years_no n k w h' (by omega)) (fun w => refYears_no n k w (by omega)) (fun w h' => YearEnd_is n y m d w h' (by omega) (by omega) hI) (fun w => refYearEnd_is n y m d w (by omega) (by omega) hI)
  · exact later_in Y M n k _ 0 _ 0 w hT (fun w h' => Years_is n k y m d w h' (by omega) (by omega) hI (by omega) (by omega)) (fun w => refYears_is n k y m d w (by omega) (by omega) hI (by omega) (by omega)) (fun w h' => YearEnd_is n y m d w h' (by omega) (by omega) hI) (fun w => refYearEnd_is n y m d w (by omega) (by omega) hI)

set_option maxRecDepth 100000 in
theorem later_lifted (os : Os) (started : os.Started) (H : Type) (enc : TypeId × Value → H) :
    ReturnsInHanded {} Tryd.checked os 4 .any (fun w args => (Rows.dayLaterSpec.pre enc Tryd.prog Tryd.f4 [] false w args ∧ laidMetH Tryd.prog laid1 w) ∧ sizedMet enc Tryd.prog Tryd.f4 (OpenSpec.ofChange Rows.dayLaterSpec) false w args)
      (Rows.dayLaterSpec.post enc Tryd.prog Tryd.f4 false true false false) := by
  refine returnsInHanded_of_change_and (C := Tryd.checked) (X := fun w _ => laidMetH Tryd.prog laid1 w) (fun _ _ _ hh h => h.of_heap hh) own started (by kernel_rfl) Tryd.func4
    (ChangeSpec.witness_shaped (enc := enc) (C := Tryd.checked) (os := os) (X := fun w _ => laidMetH Tryd.prog laid1 w) false (World.doorLaid Tryd.prog 400 os) #[.int .i64 0, .int .i64 0, .int .i64 0, .int .i64 0] 8 rfl (World.shaped_of_RefB (by kernel_rfl) (by kernel_rfl)) (by kernel_rfl) (by kernel_rfl) (by kernel_rfl) (door_met os _)) ?_
  intro W base args ds gs before hval0 hW _ _ hL _
  have hval : ∀ (j : Nat) t v, Tryd.f4.params[j]? = some t → args[j]? = some v → Value.okWide Tryd.prog W .any base t v := hval0
  have hW' := hW
  obtain ⟨p, q, hA0, hV, rfl, hfz, hnd⟩ := hW
  have hA : DataW.TrodAll enc Tryd.prog W 0 (fun _ => true) true Tryd.f4.params.toList args.toList ds p := hA0
  rw [Tryd.params4] at hA hval
  obtain ⟨v0, v1, v2, v3, d0, d1, d2, d3, p0, p1, p2, p3, rfl, rfl, rfl, h0, h1, h2, h3⟩ := trodAll_four hA
  obtain ⟨rfl, rfl⟩ := trodVars_none hV
  obtain ⟨Y, rfl, rfl, rfl, wY⟩ := open_int Tryd.underlying3 (hval 0 3 v0 rfl rfl) h0
  obtain ⟨M, rfl, rfl, rfl, wM⟩ := open_int Tryd.underlying3 (hval 1 3 v1 rfl rfl) h1
  obtain ⟨n, rfl, rfl, rfl, wn⟩ := open_int Tryd.underlying3 (hval 2 3 v2 rfl rfl) h2
  obtain ⟨k, rfl, rfl, rfl, wk⟩ := open_int Tryd.underlying3 (hval 3 3 v3 rfl rfl) h3
  refine (later_any Y M n k W (table_of_laid hL)).mono fun e W' ⟨he, hb⟩ => ?_
  subst he
  exact ⟨_, rfl, post_true rfl rfl (by kernel_rfl) hW' rfl hb⟩

theorem later_said : Rows.DayLaterSaid :=
  OpenClaim.holds_of_wide 4 Tryd.f4 rfl rfl rfl rfl rfl rfl rfl ⟨rfl, rfl, rfl, rfl, rfl⟩ rfl rfl rfl rfl rfl (by kernel_rfl) Tryd.func4 (by kernel_rfl)
    (of_decide_eq_true (by kernel_rfl)) (by unfold Func.isWrapper; first | (rw [if_pos (by decide +kernel)]; kernel_rfl) | (rw [if_neg (by decide +kernel)]; exact ⟨rfl, rfl⟩))
    (fun os started H enc _ => later_lifted os started H enc)

theorem later_holds : Rows.DayLaterCardSaid :=
  Claim7.holds_tied_plain_at .later [] [.data] true (true, "a8739655e9557d7c018a4fd303c4d1567818996deea4156720fd0d785a0dfc65") false
    later_said (fun _ h => by cases h) (by kernel_rfl) (fun _ h => by cases h) dayLater_row_tie rfl ⟨rfl, rfl⟩ (by kernel_rfl) rfl
    (fun f fn hf hfn => by
      obtain rfl : f = 4 := Option.some.inj ((show Tryd.prog.funcNamed "archivum/archivumlaw02.DayLater" = some 4 by kernel_rfl).symm.trans hf) |>.symm
      obtain rfl : fn = Tryd.f4 := (Option.some.inj (Tryd.func4.symm.trans hfn)).symm
      exact ⟨by kernel_rfl, fun j t ht => by
        rw [Tryd.params4] at ht
        have hm : t ∈ [3, 3, 3, 3] := by simpa using Array.mem_of_getElem? ht
        have hall : ([3, 3, 3, 3].all fun u => !Tryd.prog.wantsStandIn u) = true := by kernel_rfl
        exact (show Tryd.prog.wantsStandIn t = false by simpa using List.all_eq_true.1 hall t hm)⟩)
    (by kernel_rfl)
#print axioms later_holds
end Go.Proofs.YtojmolemhdonfabDoor
