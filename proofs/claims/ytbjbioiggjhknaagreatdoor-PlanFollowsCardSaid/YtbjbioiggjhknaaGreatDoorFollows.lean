/-
  PROVED HERE: the law archivumlaw07.PlanFollows answers true for every list of versions, two numbers and every string. Condition: the listed variables hold what the program's text lays in them. Every input is spoken of.
-/
import Derived.Test.YtbjbioiggjhknaaGreatDoorEy
import Derived.Test.YtbjbioiggjhknaaGreatDoorFew2
import Derived.Test.YtbjbioiggjhknaaGreatDoorRso
namespace Go.Proofs.YtbjbioiggjhknaaGreatDoor
open Go Go.RowKit Go.ChangeShapes Go.WideShapes Go.ChangeAt Go.Joins

set_option maxRecDepth 100000 in
set_option maxHeartbeats 8000000 in
theorem follows_law (p : Option Addr) (c : Nat) (l : List Pln) (a b : Int) (s : ByteArray) (w : World) (hE : Env w) (hL : PlnsAt w p l) (hc : l.length ≤ c) :
    Calls Tryz.prog 4 #[.slice p l.length c, .int .i64 a, .int .i64 b, .string s] w fun e w' => e = .returned (.bool true) ∧ Below w.heap.size w w' := by
  have L0 := Lib.hid hL
  obtain ⟨n, hl⟩ : ∃ n, l.length = n := ⟨_, rfl⟩
  rw [hl] at hc ⊢
  have HL := Lib.hid hl
  have EV := Lib.hid (fun (v : World) (h : Below w.heap.size w v) => hE.below h)
  have LV := Lib.hid (fun (v : World) (h : Below w.heap.size w v) => hL.next h)
  have AW := Lib.hid (awakeP_true w hE)
  have FE := Lib.hid (fun v h => FewPlans_any p n c l v (LV.out v h) hl)
  obtain ⟨I, E, hIE⟩ := chk_ex l
  have CH := Lib.hid hIE
  clear hE hL hl hIE
  go_enter Tryz.func4, Tryz.ntmps4
  go_wp2_with fail
  refine AW.out.mono ?_
  rintro e w2 ⟨rfl, hb2⟩
  have N2 := Lib.hid hb2
  clear hb2 AW
  go_wp2_with fail
  refine (FE.out w2 N2.out).mono ?_
  rintro e w3 ⟨B, rfl, hB, hb⟩
  have N3 := Lib.hid (N2.out.trans (hb.mono N2.out.size))
  have HB := Lib.hid hB
  clear hb hB FE
  cases B with
  | false =>
    go_wp2_with fail
    go_ret
    exact ⟨rfl, N3.out⟩
  | true =>
  by_cases h1 : 100 < s.size
  · have e1 : decide ((s.size : Int) > 100) = true := by simp; omega
    have e1' : decide ((100 : Int) < (s.size : Int)) = true := by simp; omega
    clear h1
    go_wp2_with fail
    go_ret
    exact ⟨rfl, N3.out⟩
  have e1 : decide ((s.size : Int) > 100) = false := by simp; omega
  have e1' : decide ((100 : Int) < (s.size : Int)) = false := by simp; omega
  have hF : FewL l := HB.out rfl
  have hn : n ≤ 21 := by have := hF.1; have := HL.out; omega
  obtain ⟨R, r, hR⟩ := fol_ex l E a b s
  have HRR := Lib.hid hR
  have FF := Lib.hid (show ∀ y ∈ l, Fit y from fun y hy => fit_few (hF.2 y hy))
  have SS := Lib.hid (show ∀ y ∈ l, Sml y from fun y hy => sml_few (hF.2 y hy))
  have C1 := Lib.hid (fun v h => Follow_any p n c l a b s v (EV.out v h) (LV.out v h) HL.out hc (by omega) FF.out I E CH.out (by omega) R r HRR.out)
  have C2 := Lib.hid (fun v h => FollowR_any p n c l a b s v (EV.out v h) (LV.out v h) HL.out SS.out I E CH.out (by omega) R r HRR.out)
  have C3 := Lib.hid (fun v h => Sources_any p n c l a b s v (EV.out v h) (LV.out v h) HL.out hc (by omega) FF.out I E CH.out (by omega) (fun y hy => (SS.out y hy).1))
  have C4 := Lib.hid (fun v h => SourcesR_any p n c l a b s v (EV.out v h) (LV.out v h) HL.out SS.out I E CH.out (by omega))
  have f1 := ba_eq' (rfl : R = R)
  clear hF HB h1 hR
  go_wp2_with fail
  refine (C1.out _ N3.out).mono ?_
  rintro e w4 ⟨rfl, hb⟩
  have N4 := Lib.hid (N3.out.trans (hb.mono N3.out.size))
  clear hb C1
  go_wp2_with fail
  refine (C2.out _ N4.out).mono ?_
  rintro e w5 ⟨rfl, hb⟩
  have N5 := Lib.hid (N4.out.trans (hb.mono N4.out.size))
  clear hb C2
  go_wp2_with fail
  refine (C3.out _ N5.out).mono ?_
  rintro e w6 ⟨v1, r1, rfl, hs1, hb⟩
  have N6 := Lib.hid (N5.out.trans (hb.mono N5.out.size))
  have S1 := Lib.hid hs1
  clear hb hs1 C3
  have hform : ∃ p0 n0 c0, v1 = Value.slice p0 n0 c0 := by
    obtain ⟨_, L0, p0, c0, p1, c1, hv1, _⟩ := src_two S1.out S1.out (fun y hy => (SS.out y hy).1)
    exact ⟨p0, L0.length, c0, hv1⟩
  obtain ⟨p0, n0, c0, rfl⟩ := hform
  go_wp2_with fail
  refine (C4.out _ N6.out).mono ?_
  rintro e w7 ⟨v2, r2, rfl, hs2, hb⟩
  have N7 := Lib.hid (N6.out.trans (hb.mono N6.out.size))
  obtain ⟨hr, L, p1, c1, p2, c2, q1, q2, q3, q4, q5⟩ := src_two S1.out hs2 (fun y hy => (SS.out y hy).1)
  subst hr
  subst q2
  have q6 : p0 = p1 ∧ n0 = L.length ∧ c0 = c1 := by simpa using q1
  obtain ⟨rfl, rfl, rfl⟩ := q6
  have D1 := Lib.hid (fun (v : World) (h : Below w7.heap.size w7 v) => SameStr_any p0 p2 L.length c0 c2 L v ((q3.next hb).next h) (q4.next h) rfl q5)
  clear hb hs2 q1 q3 q4 q5 C4 S1
  have dr : (r1 == r1) = true := by rw [beq_iff_eq]
  have dr2 : (r == r) = true := by rw [beq_iff_eq]
  go_wp2_with fail
  refine (D1.out _ (Below.refl _ _)).mono ?_
  rintro e w8 ⟨rfl, hb⟩
  have N8 := Lib.hid (N7.out.trans (hb.mono N7.out.size))
  clear hb
  go_wp2_with fail
  go_ret
  exact ⟨by first | rfl | simp, N8.out⟩

set_option maxRecDepth 100000 in
set_option maxHeartbeats 8000000 in
theorem follows_lifted (os : Os) (started : os.Started) (H : Type) (enc : TypeId × Value → H) :
    ReturnsInHanded {} Tryz.checked os 4 .any (fun w args => (Rows.planFollowsSpec.pre enc Tryz.prog Tryz.f4 [] false w args ∧ laidMetH Tryz.prog laid7 w) ∧ sizedMet enc Tryz.prog Tryz.f4 (OpenSpec.ofChange Rows.planFollowsSpec) false w args)
      (Rows.planFollowsSpec.post enc Tryz.prog Tryz.f4 false true false false) := by
  refine wrap (s := Rows.planFollowsSpec) started (by kernel_rfl) Tryz.func4
    (ChangeSpec.witness_shaped (enc := enc) (C := Tryz.checked) (os := os) (X := fun w _ => laidMetH Tryz.prog laid7 w) false (World.laidAll Tryz.prog os laid7) #[.slice none 0 0, .int .i64 0, .int .i64 0, .string ⟨#[]⟩] 8 (World.laidAll_os _ _ _)
      (World.shaped_of_ZipB (by kernel_rfl) (by kernel_rfl)) (by kernel_rfl) (by kernel_rfl) (by kernel_rfl) (laid_met os _)) ?_
  intro W base args ds gs before hval0 hW hE
  have hval : ∀ (j : Nat) t v, Tryz.f4.params[j]? = some t → args[j]? = some v → Value.okWide Tryz.prog W .any base t v := hval0
  have hW' := hW
  obtain ⟨p, q, hA0, hV, rfl, hfz, hnd⟩ := hW
  have hA : DataW.TrodAll enc Tryz.prog W 0 (fun _ => true) true Tryz.f4.params.toList args.toList ds p := hA0
  rw [Tryz.params4] at hA hval
  obtain ⟨v0, v1, v2, v3, d0, d1, d2, d3, p0, p1, p2, p3, rfl, rfl, rfl, h0, h1, h2, h3⟩ := trodAll_four hA
  obtain ⟨rfl, rfl⟩ := trodVars_none hV
  obtain ⟨a0, c0, l0, rfl, g0, k0⟩ := open_plns (hval 0 22 v0 rfl rfl) h0
  obtain ⟨i1, rfl, rfl, rfl, w1⟩ := Go.ChangeShapes.open_int Tryz.underlying3 (hval 1 3 v1 rfl rfl) h1
  obtain ⟨i2, rfl, rfl, rfl, w2⟩ := Go.ChangeShapes.open_int Tryz.underlying3 (hval 2 3 v2 rfl rfl) h2
  obtain ⟨s3, rfl, rfl, rfl, z3⟩ := Go.ChangeMaps.open_string Tryz.underlying9 (hval 3 9 v3 rfl rfl) h3
  refine (follows_law a0 c0 l0 i1 i2 s3 W hE g0 k0).mono fun e W' ⟨he, hb⟩ => ?_
  subst he
  exact ⟨_, rfl, post_true rfl rfl (by kernel_rfl) hW' rfl hb⟩

theorem follows_said : Rows.PlanFollowsSaid :=
  OpenClaim.holds_of_wide 4 Tryz.f4 rfl rfl rfl rfl rfl rfl rfl ⟨rfl, rfl, rfl, rfl, rfl⟩ rfl rfl rfl rfl rfl (by kernel_rfl) Tryz.func4 (by kernel_rfl)
    (of_decide_eq_true (by kernel_rfl)) (by unfold Func.isWrapper; first | (rw [if_pos (by decide +kernel)]; kernel_rfl) | (rw [if_neg (by decide +kernel)]; exact ⟨rfl, rfl⟩))
    (fun os started H enc _ => follows_lifted os started H enc)

theorem follows_holds : Rows.PlanFollowsCardSaid :=
  Claim7.holds_tied_plain_at .later [] [.data, .data, .data, .data, .sentinel, .sentinel, .pinned] true (true, "ecc1f69437661388f6aea453479fc7f98a24f547cf7dcfc3ea6f896b930c8b95") true
    follows_said (fun _ h => by cases h) (by kernel_rfl) (fun _ h => by cases h) planFollows_row_tie rfl ⟨rfl, rfl⟩ (by kernel_rfl) rfl
    (fun f fn hf hfn => by
      obtain rfl : f = 4 := Option.some.inj ((show Tryz.prog.funcNamed "archivum/archivumlaw07.PlanFollows" = some 4 by kernel_rfl).symm.trans hf) |>.symm
      obtain rfl : fn = Tryz.f4 := (Option.some.inj (Tryz.func4.symm.trans hfn)).symm
      exact ⟨by kernel_rfl, fun j t ht => by
        rw [Tryz.params4] at ht
        have hm : t ∈ [22, 3, 3, 9] := by simpa using Array.mem_of_getElem? ht
        have hall : ([22, 3, 3, 9].all fun u => !Tryz.prog.wantsStandIn u) = true := by kernel_rfl
        exact (show Tryz.prog.wantsStandIn t = false by simpa using List.all_eq_true.1 hall t hm)⟩)
    (by kernel_rfl)
#print axioms follows_holds

end Go.Proofs.YtbjbioiggjhknaaGreatDoor
