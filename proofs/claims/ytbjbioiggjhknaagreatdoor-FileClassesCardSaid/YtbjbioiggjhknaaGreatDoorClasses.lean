/-
  PROVED HERE: the law archivumlaw08.FileClasses answers true for every list of versions, every file and every day. Condition: the listed variables hold what the program's text lays in them. Every input is spoken of.
-/
import Derived.Test.YtbjbioiggjhknaaGreatDoorAf
import Derived.Test.YtbjbioiggjhknaaGreatDoorKp
import Derived.Test.YtbjbioiggjhknaaGreatDoorFw
import Derived.Test.YtbjbioiggjhknaaGreatDoorFew2
import Derived.Test.YtbjbioiggjhknaaGreatDoorRco
namespace Go.Proofs.YtbjbioiggjhknaaGreatDoor
open Go Go.RowKit Go.ChangeShapes Go.WideShapes Go.ChangeAt Go.Joins

set_option maxRecDepth 100000 in
set_option maxHeartbeats 8000000 in
theorem classes_law (p : Option Addr) (c : Nat) (l : List Pln) (x : Fil) (d : Int) (w : World) (hE : Env w) (hL : PlnsAt w p l) (hc : l.length ≤ c) (hN : NtsAt w x.np x.ns) :
    Calls Tryz.prog 5 #[.slice p l.length c, x.val, .int .i64 d] w fun e w' => e = .returned (.bool true) ∧ Below w.heap.size w w' := by
  obtain ⟨W1, hW1⟩ : ∃ W1, W1 = w.alloc (.cells x.cells 39) := ⟨_, rfl⟩
  have B1 : Hid (Below w.heap.size w W1) := by rw [hW1]; exact (Below.refl _ _).alloc (Nat.le_refl _) _
  obtain ⟨b, hb⟩ : ∃ b, b = w.heap.size := ⟨_, rfl⟩
  have X1 : Hid (FilAt W1 b 0 x) := by rw [hW1, hb]; exact fil_new w x 39
  have N0 := Lib.hid hN; have E0 := Lib.hid hE; have L0 := Lib.hid hL
  have FA := Lib.hid (fun (w2 : World) (h : Below w.heap.size w w2) => Few_any x w2.heap.size (w2.alloc (.cells x.cells 39)) (fil_new w2 x 39) ((N0.out.next h).next ((Below.refl _ _).alloc (Nat.le_refl _) _)))
  obtain ⟨n, hl⟩ : ∃ n, l.length = n := ⟨_, rfl⟩
  have HL := Lib.hid hl
  have FE := Lib.hid (fun v (h : Below w.heap.size w v) => FewPlans_any p n c l v (L0.out.next h) hl)
  obtain ⟨I, E, hIE⟩ := chk_ex l
  have CH := Lib.hid hIE
  obtain ⟨R, r, hR⟩ := fol_ex l E (vno l x.op) (vno l d) x.c
  have HR := Lib.hid hR
  obtain ⟨V, hV⟩ : ∃ V, V = clsV R r := ⟨_, rfl⟩
  have hform : ∃ t q, V = .tuple #[.string t, .int .i64 q] := by
    rw [hV]
    unfold clsV
    split <;> exact ⟨_, _, rfl⟩
  obtain ⟨t, q, hVt⟩ := hform
  rw [hVt] at hV
  have C1 : Hid (∀ (w2 : World), Below w.heap.size w w2 → FewL l → x.c.size ≤ 100 → Calls Tryz.prog 19 #[.slice p n c, x.val, .int .i64 d] w2 fun e w' => e = .returned (.tuple #[.string t, .int .i64 q]) ∧ Below w2.heap.size w2 w') := fun w2 h hf hx => by
    rw [hV]
    exact Class_any p n c l x d w2 (E0.out.below h) (L0.out.next h) HL.out (by rw [← HL.out]; exact hc) (by have := hf.1; have := HL.out; omega) (fun y hy => fit_few (hf.2 y hy)) (by omega) I E CH.out R r HR.out
  have C2 : Hid (∀ (w2 : World), Below w.heap.size w w2 → FewL l → x.c.size ≤ 100 → Calls Tryz.prog 20 #[.slice p n c, x.val, .int .i64 d] w2 fun e w' => e = .returned (.tuple #[.string t, .int .i64 q]) ∧ Below w2.heap.size w2 w') := fun w2 h hf hx => by
    rw [hV]
    exact ClassR_any p n c l x d w2 (E0.out.below h) (L0.out.next h) HL.out (by have := hf.1; have := HL.out; omega) (fun y hy => sml_few (hf.2 y hy)) (by omega) I E CH.out R r HR.out
  obtain ⟨F, hF⟩ : ∃ F, F = fewF x := ⟨_, rfl⟩
  rw [← hF] at FA
  have HF := Lib.hid hF
  have XC := Lib.hid (fun v h => fil_cellsR v x b h)
  rw [hl]
  unfold Fil.val Fil.cells at *
  have f1 := ba_eq' (rfl : t = t)
  clear hE hL hN hc hl hIE hR hV hVt hF
  go_enter Tryz.func5, Tryz.ntmps5
  go_wp2_with fail
  rw [← hW1, ← hb]
  clear hW1 hb
  go_wp2_with fail
  refine (awakeF_true _ (E0.out.below B1.out)).mono ?_
  rintro e w2 ⟨rfl, hb⟩
  have B2 := Lib.hid (B1.out.trans (hb.mono B1.out.size)); have X2 := Lib.hid (X1.out.next hb)
  clear hb
  go_wp2_with fail
  refine (FE.out w2 B2.out).mono ?_
  rintro e w3 ⟨B, rfl, hB, hb⟩
  have B3 := Lib.hid (B2.out.trans (hb.mono B2.out.size)); have X3 := Lib.hid (X2.out.next hb)
  have HB := Lib.hid hB
  clear hb hB FE
  cases B with
  | false =>
    go_wp2_with fail
    go_ret
    exact ⟨rfl, B3.out⟩
  | true =>
  have HFM : Hid (FewL l) := HB.out rfl
  clear HB
  obtain ⟨x0, x1, x2, x3, x4, x5, x6, x7⟩ := XC.out _ X3.out
  go_wp2_with fail
  refine (FA.out w3 B3.out).mono ?_
  rintro e w4 ⟨rfl, hb⟩
  have B4 : Hid (Below w.heap.size w w4) := B3.out.trans (((Below.refl _ _).alloc (Nat.le_refl _) _).trans (hb.mono (by simp)) |>.mono B3.out.size)
  have X4 : Hid (FilAt w4 b 0 x) := (X3.out.next ((Below.refl _ _).alloc (Nat.le_refl _) _)).next hb
  clear hb x0 x1 x2 x3 x4 x5 x6 x7
  cases F with
  | false =>
    go_wp2_with fail
    go_ret
    exact ⟨rfl, B4.out⟩
  | true =>
  have FW := Lib.hid (fewF_iff.1 HF.out.symm)
  have D1 := Lib.hid (fun w2 h => C1.out w2 h HFM.out FW.out.2.2.1)
  have D2 := Lib.hid (fun w2 h => C2.out w2 h HFM.out FW.out.2.2.1)
  clear C1 C2
  obtain ⟨x0, x1, x2, x3, x4, x5, x6, x7⟩ := XC.out _ X4.out
  go_wp2_with fail
  refine (D1.out _ B4.out).mono ?_
  rintro e w5 ⟨rfl, hb⟩
  have B5 := Lib.hid (B4.out.trans (hb.mono B4.out.size)); have X5 := Lib.hid (X4.out.next hb)
  clear hb D1 x0 x1 x2 x3 x4 x5 x6 x7
  obtain ⟨x0, x1, x2, x3, x4, x5, x6, x7⟩ := XC.out _ X5.out
  go_wp2_with fail
  refine (D2.out _ B5.out).mono ?_
  rintro e w6 ⟨rfl, hb⟩
  have B6 := Lib.hid (B5.out.trans (hb.mono B5.out.size))
  clear hb D2 x0 x1 x2 x3 x4 x5 x6 x7
  go_wp2_with fail
  go_ret
  exact ⟨by first | rfl | simp, B6.out⟩

set_option maxRecDepth 100000 in
set_option maxHeartbeats 8000000 in
theorem classes_lifted (os : Os) (started : os.Started) (H : Type) (enc : TypeId × Value → H) :
    ReturnsInHanded {} Tryz.checked os 5 .any (fun w args => (Rows.fileClassesSpec.pre enc Tryz.prog Tryz.f5 [] false w args ∧ laidMetH Tryz.prog laid7 w) ∧ sizedMet enc Tryz.prog Tryz.f5 (OpenSpec.ofChange Rows.fileClassesSpec) false w args)
      (Rows.fileClassesSpec.post enc Tryz.prog Tryz.f5 false true false false) := by
  refine wrap (s := Rows.fileClassesSpec) started (by kernel_rfl) Tryz.func5
    (ChangeSpec.witness_shaped (enc := enc) (C := Tryz.checked) (os := os) (X := fun w _ => laidMetH Tryz.prog laid7 w) false (World.laidAll Tryz.prog os laid7) #[.slice none 0 0, .agg #[.int .i64 0, .int .i64 0, .int .i64 0, .int .i64 0, .string ⟨#[]⟩, .string ⟨#[]⟩, .int .i64 0, .slice none 0 0], .int .i64 0] 8 (World.laidAll_os _ _ _)
      (World.shaped_of_ZipB (by kernel_rfl) (by kernel_rfl)) (by kernel_rfl) (by kernel_rfl) (by kernel_rfl) (laid_met os _)) ?_
  intro W base args ds gs before hval0 hW hE
  have hval : ∀ (j : Nat) t v, Tryz.f5.params[j]? = some t → args[j]? = some v → Value.okWide Tryz.prog W .any base t v := hval0
  have hW' := hW
  obtain ⟨p, q, hA0, hV, rfl, hfz, hnd⟩ := hW
  have hA : DataW.TrodAll enc Tryz.prog W 0 (fun _ => true) true Tryz.f5.params.toList args.toList ds p := hA0
  rw [Tryz.params5] at hA hval
  obtain ⟨v0, v1, v2, d0, d1, d2, p0, p1, p2, rfl, rfl, rfl, h0, h1, h2⟩ := trodAll_three hA
  obtain ⟨rfl, rfl⟩ := trodVars_none hV
  obtain ⟨a0, c0, l0, rfl, g0, k0⟩ := open_plns (hval 0 22 v0 rfl rfl) h0
  obtain ⟨x1, rfl, g1⟩ := open_fil (hval 1 39 v1 rfl rfl) h1
  obtain ⟨i2, rfl, rfl, rfl, w2⟩ := Go.ChangeShapes.open_int Tryz.underlying3 (hval 2 3 v2 rfl rfl) h2
  refine (classes_law a0 c0 l0 x1 i2 W hE g0 k0 g1).mono fun e W' ⟨he, hb⟩ => ?_
  subst he
  exact ⟨_, rfl, post_true rfl rfl (by kernel_rfl) hW' rfl hb⟩

theorem classes_said : Rows.FileClassesSaid :=
  OpenClaim.holds_of_wide 5 Tryz.f5 rfl rfl rfl rfl rfl rfl rfl ⟨rfl, rfl, rfl, rfl, rfl⟩ rfl rfl rfl rfl rfl (by kernel_rfl) Tryz.func5 (by kernel_rfl)
    (of_decide_eq_true (by kernel_rfl)) (by unfold Func.isWrapper; first | (rw [if_pos (by decide +kernel)]; kernel_rfl) | (rw [if_neg (by decide +kernel)]; exact ⟨rfl, rfl⟩))
    (fun os started H enc _ => classes_lifted os started H enc)

theorem classes_holds : Rows.FileClassesCardSaid :=
  Claim7.holds_tied_plain_at .later [] [.data, .data, .data, .data, .sentinel, .sentinel, .pinned] true (true, "ecc1f69437661388f6aea453479fc7f98a24f547cf7dcfc3ea6f896b930c8b95") true
    classes_said (fun _ h => by cases h) (by kernel_rfl) (fun _ h => by cases h) fileClasses_row_tie rfl ⟨rfl, rfl⟩ (by kernel_rfl) rfl
    (fun f fn hf hfn => by
      obtain rfl : f = 5 := Option.some.inj ((show Tryz.prog.funcNamed "archivum/archivumlaw08.FileClasses" = some 5 by kernel_rfl).symm.trans hf) |>.symm
      obtain rfl : fn = Tryz.f5 := (Option.some.inj (Tryz.func5.symm.trans hfn)).symm
      exact ⟨by kernel_rfl, fun j t ht => by
        rw [Tryz.params5] at ht
        have hm : t ∈ [22, 39, 3] := by simpa using Array.mem_of_getElem? ht
        have hall : ([22, 39, 3].all fun u => !Tryz.prog.wantsStandIn u) = true := by kernel_rfl
        exact (show Tryz.prog.wantsStandIn t = false by simpa using List.all_eq_true.1 hall t hm)⟩)
    (by kernel_rfl)
#print axioms classes_holds

end Go.Proofs.YtbjbioiggjhknaaGreatDoor
