/-
  PROVED HERE: the law archivumlaw07.PlanChecks answers true for every list of versions and every day. Condition: the listed variables hold what the program's text lays in them. Every input is spoken of.
-/
import Derived.Test.YtbjbioiggjhknaaGreatDoorEy
import Derived.Test.YtbjbioiggjhknaaGreatDoorFew2
import Derived.Test.YtbjbioiggjhknaaGreatDoorRck
namespace Go.Proofs.YtbjbioiggjhknaaGreatDoor
open Go Go.RowKit Go.ChangeShapes Go.WideShapes Go.ChangeAt Go.Joins

set_option maxRecDepth 100000 in
set_option maxHeartbeats 8000000 in
theorem checks_law (p : Option Addr) (c : Nat) (l : List Pln) (d : Int) (w : World) (hE : Env w) (hL : PlnsAt w p l) (hc : l.length ≤ c) :
    Calls Tryz.prog 3 #[.slice p l.length c, .int .i64 d] w fun e w' => e = .returned (.bool true) ∧ Below w.heap.size w w' := by
  have L0 := Lib.hid hL
  obtain ⟨n, hl⟩ : ∃ n, l.length = n := ⟨_, rfl⟩
  rw [hl] at hc ⊢
  have HL := Lib.hid hl
  have EV := Lib.hid (fun (v : World) (h : Below w.heap.size w v) => hE.below h)
  have LV := Lib.hid (fun (v : World) (h : Below w.heap.size w v) => hL.next h)
  have AW := Lib.hid (awakeP_true w hE)
  have FE := Lib.hid (fun v h => FewPlans_any p n c l v (LV.out v h) hl)
  obtain ⟨I, E, hIE⟩ := chk_ex l
  have CH := Lib.hid hIE
  clear hE hL hl hIE
  go_enter Tryz.func3, Tryz.ntmps3
  go_wp2_with fail
  refine AW.out.mono ?_
  rintro e w2 ⟨rfl, hb2⟩
  have N2 := Lib.hid hb2
  clear hb2 AW
  go_wp2_with fail
  refine (FE.out w2 N2.out).mono ?_
  rintro e w3 ⟨B, rfl, hB, hb⟩
  have N3 := Lib.hid (N2.out.trans (hb.mono N2.out.size))
  have HB := Lib.hid hB
  clear hb hB FE
  cases B with
  | false =>
    go_wp2_with fail
    go_ret
    exact ⟨rfl, N3.out⟩
  | true =>
  have hF : FewL l := HB.out rfl
  have hn : n ≤ 21 := by have := hF.1; have := HL.out; omega
  have C1 := Lib.hid (fun v h => Check_any p n c l v (EV.out v h) (LV.out v h) HL.out hc (fun y hy => fit_few (hF.2 y hy)) I E CH.out)
  have C2 := Lib.hid (fun v h => CheckR_any p n c l v (EV.out v h) (LV.out v h) HL.out (fun y hy => sml_few (hF.2 y hy)) I E CH.out)
  have C3 := Lib.hid (fun v h => At_any p n c l d v (EV.out v h) (LV.out v h) HL.out hc (fun y hy => fit_few (hF.2 y hy)) I E CH.out (by omega))
  have C4 := Lib.hid (fun v h => AtR_any p n c l d v (EV.out v h) (LV.out v h) HL.out (by omega) (fun y hy => sml_few (hF.2 y hy)) I E CH.out)
  obtain ⟨A, hA⟩ : ∃ A, A = (if E = 0 then idxV (l.findIdx? (on d)) else -1) := ⟨_, rfl⟩
  rw [← hA] at C3 C4
  clear hF hA HB
  go_wp2_with fail
  refine (C1.out _ N3.out).mono ?_
  rintro e w4 ⟨rfl, hb⟩
  have N4 := Lib.hid (N3.out.trans (hb.mono N3.out.size))
  clear hb C1
  go_wp2_with fail
  refine (C2.out _ N4.out).mono ?_
  rintro e w5 ⟨rfl, hb⟩
  have N5 := Lib.hid (N4.out.trans (hb.mono N4.out.size))
  clear hb C2
  go_wp2_with fail
  refine (C3.out _ N5.out).mono ?_
  rintro e w6 ⟨rfl, hb⟩
  have N6 := Lib.hid (N5.out.trans (hb.mono N5.out.size))
  clear hb C3
  go_wp2_with fail
  refine (C4.out _ N6.out).mono ?_
  rintro e w7 ⟨rfl, hb⟩
  have N7 := Lib.hid (N6.out.trans (hb.mono N6.out.size))
  clear hb C4
  go_wp2_with fail
  go_ret
  exact ⟨by first | rfl | simp, N7.out⟩

set_option maxRecDepth 100000 in
set_option maxHeartbeats 8000000 in
theorem checks_lifted (os : Os) (started : os.Started) (H : Type) (enc : TypeId × Value → H) :
    ReturnsInHanded {} Tryz.checked os 3 .any (fun w args => (Rows.planChecksSpec.pre enc Tryz.prog Tryz.f3 [] false w args ∧ laidMetH Tryz.prog laid7 w) ∧ sizedMet enc Tryz.prog Tryz.f3 (OpenSpec.ofChange Rows.planChecksSpec) false w args)
      (Rows.planChecksSpec.post enc Tryz.prog Tryz.f3 false true false false) := by
  refine wrap (s := Rows.planChecksSpec) started (by kernel_rfl) Tryz.func3
    (ChangeSpec.witness_shaped (enc := enc) (C := Tryz.checked) (os := os) (X := fun w _ => laidMetH Tryz.prog laid7 w) false (World.laidAll Tryz.prog os laid7) #[.slice none 0 0, .int .i64 0] 8 (World.laidAll_os _ _ _)
      (World.shaped_of_ZipB (by kernel_rfl) (by kernel_rfl)) (by kernel_rfl) (by kernel_rfl) (by kernel_rfl) (laid_met os _)) ?_
  intro W base args ds gs before hval0 hW hE
  have hval : ∀ (j : Nat) t v, Tryz.f3.params[j]? = some t → args[j]? = some v → Value.okWide Tryz.prog W .any base t v := hval0
  have hW' := hW
  obtain ⟨p, q, hA0, hV, rfl, hfz, hnd⟩ := hW
  have hA : DataW.TrodAll enc Tryz.prog W 0 (fun _ => true) true Tryz.f3.params.toList args.toList ds p := hA0
  rw [Tryz.params3] at hA hval
  obtain ⟨v0, v1, d0, d1, p0, p1, rfl, rfl, rfl, h0, h1⟩ := trodAll_two hA
  obtain ⟨rfl, rfl⟩ := trodVars_none hV
  obtain ⟨a0, c0, l0, rfl, g0, k0⟩ := open_plns (hval 0 22 v0 rfl rfl) h0
  obtain ⟨i1, rfl, rfl, rfl, w1⟩ := Go.ChangeShapes.open_int Tryz.underlying3 (hval 1 3 v1 rfl rfl) h1
  refine (checks_law a0 c0 l0 i1 W hE g0 k0).mono fun e W' ⟨he, hb⟩ => ?_
  subst he
  exact ⟨_, rfl, post_true rfl rfl (by kernel_rfl) hW' rfl hb⟩

theorem checks_said : Rows.PlanChecksSaid :=
  OpenClaim.holds_of_wide 3 Tryz.f3 rfl rfl rfl rfl rfl rfl rfl ⟨rfl, rfl, rfl, rfl, rfl⟩ rfl rfl rfl rfl rfl (by kernel_rfl) Tryz.func3 (by kernel_rfl)
    (of_decide_eq_true (by kernel_rfl)) (by unfold Func.isWrapper; first | (rw [if_pos (by decide +kernel)]; kernel_rfl) | (rw [if_neg (by decide +kernel)]; exact ⟨rfl, rfl⟩))
    (fun os started H enc _ => checks_lifted os started H enc)

theorem checks_holds : Rows.PlanChecksCardSaid :=
  Claim7.holds_tied_plain_at .later [] [.data, .data, .data, .data, .sentinel, .sentinel, .pinned] true (true, "ecc1f69437661388f6aea453479fc7f98a24f547cf7dcfc3ea6f896b930c8b95") true
    checks_said (fun _ h => by cases h) (by kernel_rfl) (fun _ h => by cases h) planChecks_row_tie rfl ⟨rfl, rfl⟩ (by kernel_rfl) rfl
    (fun f fn hf hfn => by
      obtain rfl : f = 3 := Option.some.inj ((show Tryz.prog.funcNamed "archivum/archivumlaw07.PlanChecks" = some 3 by kernel_rfl).symm.trans hf) |>.symm
      obtain rfl : fn = Tryz.f3 := (Option.some.inj (Tryz.func3.symm.trans hfn)).symm
      exact ⟨by kernel_rfl, fun j t ht => by
        rw [Tryz.params3] at ht
        have hm : t ∈ [22, 3] := by simpa using Array.mem_of_getElem? ht
        have hall : ([22, 3].all fun u => !Tryz.prog.wantsStandIn u) = true := by kernel_rfl
        exact (show Tryz.prog.wantsStandIn t = false by simpa using List.all_eq_true.1 hall t hm)⟩)
    (by kernel_rfl)
#print axioms checks_holds

end Go.Proofs.YtbjbioiggjhknaaGreatDoor
