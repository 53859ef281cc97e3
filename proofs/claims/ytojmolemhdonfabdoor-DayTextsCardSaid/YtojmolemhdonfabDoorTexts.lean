/-
  PROVED HERE: the law archivumlaw02.DayTexts answers true for every number and every text: Format and Parse answer as the reference implementation does, values and errors. Condition: the package variable archivum/day.lengths holds what the program's text lays in it (the card ties that). Every int and every string is spoken of (beyond 40 bytes the law itself asks nothing).
-/
import Derived.Test.YtojmolemhdonfabDoorKit
import Derived.Test.YtojmolemhdonfabDoorParse
import Derived.ChangeMaps5
namespace Go.Proofs.YtojmolemhdonfabDoor
open Go.ChangeShapes Go.WideShapes Go.ChangeAt Go.RowKit Cal
open Go.ChangeMaps (open_string)

set_option maxRecDepth 100000 in
set_option maxHeartbeats 2000000 in
/-- The walk behind the example: code and reference give the same strings and numbers. -/
theorem texts_in (n : Int) (s S : ByteArray) (eS x ex : Int) (w : World) (hT : Table w) (hs : (s.size : Int) ≤ 40)
    (C1 : ∀ w, Table w → Calls Tryd.prog 23 #[.int .i64 n] w fun e w' => e = .returned (.tuple #[.string S, .int .i64 eS]) ∧ Below w.heap.size w w')
    (C2 : ∀ w, Calls Tryd.prog 24 #[.int .i64 n] w fun e w' => e = .returned (.tuple #[.string S, .int .i64 eS]) ∧ w = w')
    (C3 : ∀ w, Table w → Calls Tryd.prog 25 #[.string s] w fun e w' => e = .returned (.tuple #[.int .i64 x, .int .i64 ex]) ∧ w = w')
    (C4 : ∀ w, Calls Tryd.prog 26 #[.string s] w fun e w' => e = .returned (.tuple #[.int .i64 x, .int .i64 ex]) ∧ w = w') :
    Calls Tryd.prog 5 #[.int .i64 n, .string s] w fun e w' => e = .returned (.bool true) ∧ Below w.heap.size w w' := by
  have HT := Lib.hid hT
  have D1 := Lib.hid C1; have D2 := Lib.hid C2; have D3 := Lib.hid C3; have D4 := Lib.hid C4
  clear hT C1 C2 C3 C4
  go_enter Tryd.func5, Tryd.ntmps5
  go_wp2_with fail
  refine (awake_true w HT.out).mono ?_
  rintro e w1 ⟨rfl, hb⟩
  have HT1 := Lib.hid (HT.out.below hb)
  have HB := Lib.hid hb
  clear hb
  go_wp2_with fail
  refine (D1.out w1 HT1.out).mono ?_
  rintro e w2 ⟨rfl, hb2⟩
  have HT2 := Lib.hid (HT1.out.below hb2)
  have HB2 := Lib.hid (HB.out.trans (hb2.mono HB.out.size))
  clear hb2
  go_wp2_with fail
  refine (D2.out w2).mono ?_
  rintro e w' ⟨rfl, rfl⟩
  go_wp2_with fail
  refine (D3.out w2 HT2.out).mono ?_
  rintro e w' ⟨rfl, rfl⟩
  go_wp2_with fail
  refine (D4.out w2).mono ?_
  rintro e w' ⟨rfl, rfl⟩
  go_wp2
  go_ret
  exact ⟨rfl, HB2.out⟩

set_option maxHeartbeats 1000000 in
theorem texts_long (n : Int) (s : ByteArray) (w : World) (hT : Table w) (hs : 40 < (s.size : Int)) :
    Calls Tryd.prog 5 #[.int .i64 n, .string s] w fun e w' => e = .returned (.bool true) ∧ Below w.heap.size w w' := by
  have HT := Lib.hid hT
  clear hT
  go_enter Tryd.func5, Tryd.ntmps5
  go_wp2_with fail
  refine (awake_true w HT.out).mono ?_
  rintro e w1 ⟨rfl, hb⟩
  go_wp2
  go_ret
  exact ⟨rfl, hb⟩

theorem texts_any (n : Int) (s : ByteArray) (w : World) (hT : Table w) :
    Calls Tryd.prog 5 #[.int .i64 n, .string s] w fun e w' => e = .returned (.bool true) ∧ Below w.heap.size w w' := by
  by_cases hs : 40 < (s.size : Int)
  · exact texts_long n s w hT hs
  have hs' : (s.size : Int) ≤ 40 := by omega
  have keep : ∀ {f : FuncId} {a : Array Value} {v : Value} {w : World}, (Calls Tryd.prog f a w fun e w' => e = .returned v ∧ w = w') → Calls Tryd.prog f a w fun e w' => e = .returned v ∧ Below w.heap.size w w' :=
    fun h => h.mono fun e w' ⟨he, hw⟩ => ⟨he, hw ▸ Below.refl _ _⟩
  by_cases h : n < 0 ∨ 1048575 < n
  · by_cases g : Shape s
    · exact texts_in n s _ 2 _ _ w hT hs' (fun w _ => keep (Format_no n w h)) (fun w => refFormat_no n w h) (fun w h' => Parse_good s w h' g) (fun w => refParse_good s w g)
    · exact texts_in n s _ 2 0 3 w hT hs' (fun w _ => keep (Format_no n w h)) (fun w => refFormat_no n w h) (fun w h' => Parse_bad s w h' g) (fun w => refParse_bad s w g)
  · obtain ⟨y, m, d, hI⟩ := date_exists n (by omega) (by omega)
    by_cases g : Shape s
    · exact texts_in n s _ 0 _ _ w hT hs' (fun w h' => Format_is n y m d w h' (by omega) (by omega) hI) (fun w => refFormat_is n y m d w (by omega) (by omega) hI) (fun w h' => Parse_good s w h' g) (fun w => refParse_good s w g)
    · exact texts_in n s _ 0 0 3 w hT hs' (fun w h' => Format_is n y m d w h' (by omega) (by omega) hI) (fun w => refFormat_is n y m d w (by omega) (by omega) hI) (fun w h' => Parse_bad s w h' g) (fun w => refParse_bad s w g)

set_option maxRecDepth 100000 in
theorem texts_lifted (os : Os) (started : os.Started) (H : Type) (enc : TypeId × Value → H) :
    ReturnsInHanded {} Tryd.checked os 5 .any (fun w args => (Rows.dayTextsSpec.pre enc Tryd.prog Tryd.f5 [] false w args ∧ laidMetH Tryd.prog laid1 w) ∧ sizedMet enc Tryd.prog Tryd.f5 (OpenSpec.ofChange Rows.dayTextsSpec) false w args)
      (Rows.dayTextsSpec.post enc Tryd.prog Tryd.f5 false true false false) := by
  refine returnsInHanded_of_change_and (C := Tryd.checked) (X := fun w _ => laidMetH Tryd.prog laid1 w) (fun _ _ _ hh h => h.of_heap hh) own started (by kernel_rfl) Tryd.func5
    (ChangeSpec.witness_shaped (enc := enc) (C := Tryd.checked) (os := os) (X := fun w _ => laidMetH Tryd.prog laid1 w) false (World.doorLaid Tryd.prog 400 os) #[.int .i64 0, .string { data := #[] }] 8 rfl (World.shaped_of_RefB (by kernel_rfl) (by kernel_rfl)) (by kernel_rfl) (by kernel_rfl) (by kernel_rfl) (door_met os _)) ?_
  intro W base args ds gs before hval0 hW _ _ hL _
  have hval : ∀ (j : Nat) t v, Tryd.f5.params[j]? = some t → args[j]? = some v → Value.okWide Tryd.prog W .any base t v := hval0
  have hW' := hW
  obtain ⟨p, q, hA0, hV, rfl, hfz, hnd⟩ := hW
  have hA : DataW.TrodAll enc Tryd.prog W 0 (fun _ => true) true Tryd.f5.params.toList args.toList ds p := hA0
  rw [Tryd.params5] at hA hval
  obtain ⟨v0, v1, d0, d1, p0, p1, rfl, rfl, rfl, h0, h1⟩ := trodAll_two hA
  obtain ⟨rfl, rfl⟩ := trodVars_none hV
  obtain ⟨n, rfl, rfl, rfl, wn⟩ := open_int Tryd.underlying3 (hval 0 3 v0 rfl rfl) h0
  obtain ⟨s, rfl, rfl, rfl, ws⟩ := open_string Tryd.underlying9 (hval 1 9 v1 rfl rfl) h1
  refine (texts_any n s W (table_of_laid hL)).mono fun e W' ⟨he, hb⟩ => ?_
  subst he
  exact ⟨_, rfl, post_true rfl rfl (by kernel_rfl) hW' rfl hb⟩

theorem texts_said : Rows.DayTextsSaid :=
  OpenClaim.holds_of_wide 5 Tryd.f5 rfl rfl rfl rfl rfl rfl rfl ⟨rfl, rfl, rfl, rfl, rfl⟩ rfl rfl rfl rfl rfl (by kernel_rfl) Tryd.func5 (by kernel_rfl)
    (of_decide_eq_true (by kernel_rfl)) (by unfold Func.isWrapper; first | (rw [if_pos (by decide +kernel)]; kernel_rfl) | (rw [if_neg (by decide +kernel)]; exact ⟨rfl, rfl⟩))
    (fun os started H enc _ => texts_lifted os started H enc)

theorem texts_holds : Rows.DayTextsCardSaid :=
  Claim7.holds_tied_plain_at .later [] [.data] true (true, "a8739655e9557d7c018a4fd303c4d1567818996deea4156720fd0d785a0dfc65") false
    texts_said (fun _ h => by cases h) (by kernel_rfl) (fun _ h => by cases h) dayTexts_row_tie rfl ⟨rfl, rfl⟩ (by kernel_rfl) rfl
    (fun f fn hf hfn => by
      obtain rfl : f = 5 := Option.some.inj ((show Tryd.prog.funcNamed "archivum/archivumlaw02.DayTexts" = some 5 by kernel_rfl).symm.trans hf) |>.symm
      obtain rfl : fn = Tryd.f5 := (Option.some.inj (Tryd.func5.symm.trans hfn)).symm
      exact ⟨by kernel_rfl, fun j t ht => by
        rw [Tryd.params5] at ht
        have hm : t ∈ [3, 9] := by simpa using Array.mem_of_getElem? ht
        have hall : ([3, 9].all fun u => !Tryd.prog.wantsStandIn u) = true := by kernel_rfl
        exact (show Tryd.prog.wantsStandIn t = false by simpa using List.all_eq_true.1 hall t hm)⟩)
    (by kernel_rfl)
#print axioms texts_holds
end Go.Proofs.YtojmolemhdonfabDoor
