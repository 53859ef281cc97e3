/-
  PROVED HERE: the law archivumlaw07.PlanNexts answers true for every two versions and string. Condition: the listed variables hold what the program's text lays in them. Every input is spoken of.
-/
import Derived.Test.YtjnlbjlejggngaaGreatDoorEy
import Derived.Test.YtjnlbjlejggngaaGreatDoorNc
import Derived.Deep.RegionHeld3
namespace Go.Proofs.YtjnlbjlejggngaaGreatDoor
open Go Go.RowKit Go.ChangeShapes Go.WideShapes Go.ChangeAt Go.Joins

set_option maxRecDepth 100000 in
set_option maxHeartbeats 8000000 in
theorem nexts_law (old new : Pln) (s : ByteArray) (w : World) (hE : Env w) (hO : PlnOk w old) (hN : PlnOk w new) :
    Calls Tryz.prog 3 #[old.val, new.val, .string s] w fun e w' => e = .returned (.bool true) ∧ Below w.heap.size w w' := by
  obtain ⟨W1, hW1⟩ : ∃ W1, W1 = (w.alloc (.cells old.cells 27)).alloc (.cells new.cells 27) := ⟨_, rfl⟩
  obtain ⟨b, hb⟩ : ∃ b, b = w.heap.size := ⟨_, rfl⟩
  have B1 : Hid (Below w.heap.size w W1) := by rw [hW1]; exact ((Below.refl _ _).alloc (Nat.le_refl _) _).alloc (by simp) _
  have O1 : Hid (PlnAt W1 b 0 old) := by rw [hW1, hb]; exact (two_new w old new 27).1
  have N1 : Hid (PlnAt W1 (b + 1) 0 new) := by rw [hW1, hb]; exact (two_new w old new 27).2
  have KEEP := Lib.hid (fun (v : World) (h : Below W1.heap.size W1 v) => (⟨O1.out.next h, N1.out.next h⟩ : PlnAt v b 0 old ∧ PlnAt v (b + 1) 0 new))
  have EV := Lib.hid (fun (v : World) (h : Below W1.heap.size W1 v) => hE.below (B1.out.trans (h.mono B1.out.size)))
  have OO := Lib.hid (fun (v : World) (h : Below W1.heap.size W1 v) => (hO.next B1.out).next h)
  have NN := Lib.hid (fun (v : World) (h : Below W1.heap.size W1 v) => (hN.next B1.out).next h)
  have FIN := Lib.hid (fun (v : World) (h : Below W1.heap.size W1 v) => B1.out.trans (h.mono B1.out.size))
  have AW := Lib.hid (awakeP_true W1 (EV.out W1 (Below.refl _ _)))
  have FO := Lib.hid (fun v h => FewPlan_any old v (OO.out v h))
  have FN := Lib.hid (fun v h => FewPlan_any new v (NN.out v h))
  have SZ : Hid (FewP old → Szs old.cs) := fun k y hy => by have := k.2.2.1 y hy; exact ⟨by omega, by omega⟩
  have NX := Lib.hid (fun v h (k : FewP old) (k2 : FewP new) (hs : s.size ≤ 100) => Next_any old new s v (EV.out v h) (OO.out v h) (NN.out v h) (by have := k.1; omega) (by have := k2.1; omega) (by have := k2.2.1; omega) (by omega))
  have NR := Lib.hid (fun v h (k : FewP old) (k2 : FewP new) (hs : s.size ≤ 100) => NextR_any old new s v (EV.out v h) (OO.out v h) (NN.out v h) (by have := k.1; omega) (by have := k2.1; omega) (by have := k2.2.1; omega) (by omega))
  have HO := Lib.hid (fun v h (k : FewP old) => Has_any old s v (OO.out v h) (by have := k.1; omega))
  have HR := Lib.hid (fun v h (k : FewP old) => HasR_any old s v (OO.out v h) (by have := k.1; omega))
  have CO := Lib.hid (fun v h (k : FewP old) => Children_any old s v (EV.out v h) (OO.out v h) (by have := k.1; omega) (SZ.out k))
  have CR := Lib.hid (fun v h (k : FewP old) => ChildrenR_any old s v (EV.out v h) (OO.out v h) (by have := k.1; omega) (SZ.out k))
  unfold Pln.val at FO FN NX NR HO HR CO CR ⊢
  unfold Pln.cells at hW1
  clear hE hO hN
  go_enter Tryz.func3, Tryz.ntmps3
  go_wp2_with fail
  rw [← hW1, ← hb]
  clear hW1 hb
  go_wp2_with fail
  refine AW.out.mono ?_
  rintro e w2 ⟨rfl, hb2⟩
  have N2 := Lib.hid hb2
  clear hb2 AW
  obtain ⟨⟨o0, o1, o2, o3, o4⟩, _⟩ := KEEP.out w2 N2.out
  go_wp2_with fail
  refine (FO.out w2 N2.out).mono ?_
  rintro e w3 ⟨B, rfl, hB, hb⟩
  have N3 := Lib.hid (N2.out.trans (hb.mono N2.out.size))
  have HB1 := Lib.hid hB
  clear hb hB o0 o1 o2 o3 o4 FO
  cases B with
  | false =>
    go_wp2_with fail
    go_ret
    exact ⟨rfl, FIN.out _ N3.out⟩
  | true =>
  have HO1 : Hid (FewP old) := HB1.out rfl
  clear HB1
  obtain ⟨_, ⟨n0, n1, n2, n3, n4⟩⟩ := KEEP.out w3 N3.out
  go_wp2_with fail
  refine (FN.out w3 N3.out).mono ?_
  rintro e w4 ⟨B, rfl, hB, hb⟩
  have N4 := Lib.hid (N3.out.trans (hb.mono N3.out.size))
  have HB2 := Lib.hid hB
  clear hb hB n0 n1 n2 n3 n4 FN
  cases B with
  | false =>
    go_wp2_with fail
    go_ret
    exact ⟨rfl, FIN.out _ N4.out⟩
  | true =>
  have HN1 : Hid (FewP new) := HB2.out rfl
  clear HB2
  obtain ⟨⟨o0, o1, o2, o3, o4⟩, ⟨n0, n1, n2, n3, n4⟩⟩ := KEEP.out w4 N4.out
  by_cases h1 : 100 < s.size
  · have e1 : decide ((100 : Int) < (s.size : Int)) = true := by simp; omega
    clear h1
    go_wp2_with fail
    go_ret
    exact ⟨rfl, FIN.out _ N4.out⟩
  have e1 : decide ((100 : Int) < (s.size : Int)) = false := by simp; omega
  have hs100 : s.size ≤ 100 := by omega
  have C1 := Lib.hid (fun v h => NX.out v h HO1.out HN1.out hs100)
  have C2 := Lib.hid (fun v h => NR.out v h HO1.out HN1.out hs100)
  have C3 := Lib.hid (fun v h => HO.out v h HO1.out)
  have C4 := Lib.hid (fun v h => HR.out v h HO1.out)
  have C5 := Lib.hid (fun v h => CO.out v h HO1.out)
  have C6 := Lib.hid (fun v h => CR.out v h HO1.out)
  have LEN : Hid ((old.cs.filter (chi s)).length ≤ 1000000000) := by
    have h1 := List.length_filter_le (chi s) old.cs
    have h2 := HO1.out.1
    show _ ≤ _
    omega
  have hn1 : ∃ B t, optV (nxt old new s) = .tuple #[.string t, .bool B] := by
    cases nxt old new s with
    | none => exact ⟨false, _, rfl⟩
    | some t => exact ⟨true, t, rfl⟩
  obtain ⟨B, t, ht⟩ := hn1
  rw [ht] at C1 C2
  obtain ⟨Q, hQ⟩ : ∃ Q, Q = has old.cs s := ⟨_, rfl⟩
  rw [← hQ] at C3 C4
  obtain ⟨L, hL⟩ : ∃ L, L = old.cs.filter (chi s) := ⟨_, rfl⟩
  rw [← hL] at C5 C6 LEN
  have f1 := ba_eq' (rfl : t = t)
  clear h1 NX NR HO HR CO CR hs100 ht hQ hL SZ
  go_wp2_with fail
  refine (C1.out _ N4.out).mono ?_
  rintro e w5 ⟨rfl, hb⟩
  have N5 := Lib.hid (N4.out.trans (hb.mono N4.out.size))
  clear hb C1 o0 o1 o2 o3 o4 n0 n1 n2 n3 n4
  obtain ⟨⟨o0, o1, o2, o3, o4⟩, ⟨n0, n1, n2, n3, n4⟩⟩ := KEEP.out w5 N5.out
  go_wp2_with fail
  refine (C2.out _ N5.out).mono ?_
  rintro e w6 ⟨rfl, hb⟩
  have N6 := Lib.hid (N5.out.trans (hb.mono N5.out.size))
  clear hb C2 o0 o1 o2 o3 o4 n0 n1 n2 n3 n4
  obtain ⟨⟨o0, o1, o2, o3, o4⟩, _⟩ := KEEP.out w6 N6.out
  have HS : Hid (w6.cell? ⟨b, 0, none⟩ = some (.int .i64 old.v) ∧ w6.cell? ⟨b, 1, none⟩ = some (.int .i64 old.f) ∧ w6.cell? ⟨b, 2, none⟩ = some (.int .i64 old.u) ∧ w6.cell? ⟨b, 3, none⟩ = some (.slice old.cp old.cs.length old.cc) ∧ w6.cell? ⟨b, 4, none⟩ = some (.slice old.mp old.ms.length old.mc)) := (KEEP.out w6 N6.out).1
  cases B <;> cases Q <;> {
    go_wp2_with fail
    go_region_held3 (fun v => v.cell? ⟨b, 0, none⟩ = some (.int .i64 old.v) ∧ v.cell? ⟨b, 1, none⟩ = some (.int .i64 old.f) ∧ v.cell? ⟨b, 2, none⟩ = some (.int .i64 old.u) ∧ v.cell? ⟨b, 3, none⟩ = some (.slice old.cp old.cs.length old.cc) ∧ v.cell? ⟨b, 4, none⟩ = some (.slice old.mp old.ms.length old.mc)) (first | exact HS.out | assumption)
      ((first
        | (go_at_call 14; refine (SameStr_any p q L.length c d L wa (P9.out.next hba) hq rfl LEN.out).mono ?_; rintro e wb ⟨rfl, hbb⟩; have Nb := Lib.hid (Na.out.trans (hbb.mono Na.out.size)); have hsb : wb.cell? ⟨b, 0, none⟩ = some (.int .i64 old.v) ∧ wb.cell? ⟨b, 1, none⟩ = some (.int .i64 old.f) ∧ wb.cell? ⟨b, 2, none⟩ = some (.int .i64 old.u) ∧ wb.cell? ⟨b, 3, none⟩ = some (.slice old.cp old.cs.length old.cc) ∧ wb.cell? ⟨b, 4, none⟩ = some (.slice old.mp old.ms.length old.mc) := (KEEP.out wb Nb.out).1)
        | (go_at_call 16; refine (C6.out _ N9.out).mono ?_; rintro e wa ⟨v2, rfl, hr2, hba⟩; obtain ⟨q, d, rfl, hq⟩ := strs_of_row hr2; have Na := Lib.hid (N9.out.trans (hba.mono N9.out.size)); have hsa : wa.cell? ⟨b, 0, none⟩ = some (.int .i64 old.v) ∧ wa.cell? ⟨b, 1, none⟩ = some (.int .i64 old.f) ∧ wa.cell? ⟨b, 2, none⟩ = some (.int .i64 old.u) ∧ wa.cell? ⟨b, 3, none⟩ = some (.slice old.cp old.cs.length old.cc) ∧ wa.cell? ⟨b, 4, none⟩ = some (.slice old.mp old.ms.length old.mc) := (KEEP.out wa Na.out).1)
        | (go_at_call 15; refine (C5.out _ N8.out).mono ?_; rintro e w9 ⟨v1, rfl, hr1, hb9⟩; obtain ⟨p, c, rfl, hp⟩ := strs_of_row hr1; have P9 := Lib.hid hp; have N9 := Lib.hid (N8.out.trans (hb9.mono N8.out.size)); have hs9 : w9.cell? ⟨b, 0, none⟩ = some (.int .i64 old.v) ∧ w9.cell? ⟨b, 1, none⟩ = some (.int .i64 old.f) ∧ w9.cell? ⟨b, 2, none⟩ = some (.int .i64 old.u) ∧ w9.cell? ⟨b, 3, none⟩ = some (.slice old.cp old.cs.length old.cc) ∧ w9.cell? ⟨b, 4, none⟩ = some (.slice old.mp old.ms.length old.mc) := (KEEP.out w9 N9.out).1)
        | (go_at_call 13; refine (C4.out _ N7.out).mono ?_; rintro e w8 ⟨rfl, hb8⟩; have N8 := Lib.hid (N7.out.trans (hb8.mono N7.out.size)); have hs8 : w8.cell? ⟨b, 0, none⟩ = some (.int .i64 old.v) ∧ w8.cell? ⟨b, 1, none⟩ = some (.int .i64 old.f) ∧ w8.cell? ⟨b, 2, none⟩ = some (.int .i64 old.u) ∧ w8.cell? ⟨b, 3, none⟩ = some (.slice old.cp old.cs.length old.cc) ∧ w8.cell? ⟨b, 4, none⟩ = some (.slice old.mp old.ms.length old.mc) := (KEEP.out w8 N8.out).1)
        | (go_at_call 12; refine (C3.out _ (below_drewN N6.out 1)).mono ?_; rintro e w7 ⟨rfl, hb7⟩; have N7 : Hid (Below W1.heap.size W1 w7) := (below_drewN N6.out 1).trans (hb7.mono N6.out.size); have hs7 : w7.cell? ⟨b, 0, none⟩ = some (.int .i64 old.v) ∧ w7.cell? ⟨b, 1, none⟩ = some (.int .i64 old.f) ∧ w7.cell? ⟨b, 2, none⟩ = some (.int .i64 old.u) ∧ w7.cell? ⟨b, 3, none⟩ = some (.slice old.cp old.cs.length old.cc) ∧ w7.cell? ⟨b, 4, none⟩ = some (.slice old.mp old.ms.length old.mc) := (KEEP.out w7 N7.out).1)))
    go_wp2_with fail
    go_ret
    exact ⟨by first | rfl | simp, FIN.out _ Nb.out⟩ }

set_option maxRecDepth 100000 in
theorem nexts_lifted (os : Os) (started : os.Started) (H : Type) (enc : TypeId × Value → H) :
    ReturnsInHanded {} Tryz.checked os 3 .any (fun w args => (Rows.planNextsSpec.pre enc Tryz.prog Tryz.f3 [] false w args ∧ laidMetH Tryz.prog laid7 w) ∧ sizedMet enc Tryz.prog Tryz.f3 (OpenSpec.ofChange Rows.planNextsSpec) false w args)
      (Rows.planNextsSpec.post enc Tryz.prog Tryz.f3 false true false false) := by
  refine wrap (s := Rows.planNextsSpec) started (by kernel_rfl) Tryz.func3
    (ChangeSpec.witness_shaped (enc := enc) (C := Tryz.checked) (os := os) (X := fun w _ => laidMetH Tryz.prog laid7 w) false (World.laidAll Tryz.prog os laid7) #[.agg #[.int .i64 0, .int .i64 0, .int .i64 0, .slice none 0 0, .slice none 0 0], .agg #[.int .i64 0, .int .i64 0, .int .i64 0, .slice none 0 0, .slice none 0 0], .string ⟨#[]⟩] 8 (World.laidAll_os _ _ _)
      (World.shaped_of_ZipB (by kernel_rfl) (by kernel_rfl)) (by kernel_rfl) (by kernel_rfl) (by kernel_rfl) (laid_met os _)) ?_
  intro W base args ds gs before hval0 hW hE
  have hval : ∀ (j : Nat) t v, Tryz.f3.params[j]? = some t → args[j]? = some v → Value.okWide Tryz.prog W .any base t v := hval0
  have hW' := hW
  obtain ⟨p, q, hA0, hV, rfl, hfz, hnd⟩ := hW
  have hA : DataW.TrodAll enc Tryz.prog W 0 (fun _ => true) true Tryz.f3.params.toList args.toList ds p := hA0
  rw [Tryz.params3] at hA hval
  obtain ⟨v0, v1, v2, d0, d1, d2, p0, p1, p2, rfl, rfl, rfl, h0, h1, h2⟩ := trodAll_three hA
  obtain ⟨rfl, rfl⟩ := trodVars_none hV
  obtain ⟨x0, rfl, g0, k0⟩ := open_pln (hval 0 27 v0 rfl rfl) h0
  obtain ⟨x1, rfl, g1, k1⟩ := open_pln (hval 1 27 v1 rfl rfl) h1
  obtain ⟨s2, rfl, rfl, rfl, z2⟩ := Go.ChangeMaps.open_string Tryz.underlying9 (hval 2 9 v2 rfl rfl) h2
  refine (nexts_law x0 x1 s2 W hE ⟨g0, k0⟩ ⟨g1, k1⟩).mono fun e W' ⟨he, hb⟩ => ?_
  subst he
  exact ⟨_, rfl, post_true rfl rfl (by kernel_rfl) hW' rfl hb⟩

theorem nexts_said : Rows.PlanNextsSaid :=
  OpenClaim.holds_of_wide 3 Tryz.f3 rfl rfl rfl rfl rfl rfl rfl ⟨rfl, rfl, rfl, rfl, rfl⟩ rfl rfl rfl rfl rfl (by kernel_rfl) Tryz.func3 (by kernel_rfl)
    (of_decide_eq_true (by kernel_rfl)) (by unfold Func.isWrapper; first | (rw [if_pos (by decide +kernel)]; kernel_rfl) | (rw [if_neg (by decide +kernel)]; exact ⟨rfl, rfl⟩))
    (fun os started H enc _ => nexts_lifted os started H enc)

theorem nexts_holds : Rows.PlanNextsCardSaid :=
  Claim7.holds_tied_plain_at .later [] [.data, .data, .data, .data, .sentinel, .sentinel, .pinned] true (true, "c80df58f0cb825ccc474b2251b69f38e8d8aabfc275a480989717639d46b41a4") true
    nexts_said (fun _ h => by cases h) (by kernel_rfl) (fun _ h => by cases h) planNexts_row_tie rfl ⟨rfl, rfl⟩ (by kernel_rfl) rfl
    (fun f fn hf hfn => by
      obtain rfl : f = 3 := Option.some.inj ((show Tryz.prog.funcNamed "archivum/archivumlaw07.PlanNexts" = some 3 by kernel_rfl).symm.trans hf) |>.symm
      obtain rfl : fn = Tryz.f3 := (Option.some.inj (Tryz.func3.symm.trans hfn)).symm
      exact ⟨by kernel_rfl, fun j t ht => by
        rw [Tryz.params3] at ht
        have hm : t ∈ [27, 27, 9] := by simpa using Array.mem_of_getElem? ht
        have hall : ([27, 27, 9].all fun u => !Tryz.prog.wantsStandIn u) = true := by kernel_rfl
        exact (show Tryz.prog.wantsStandIn t = false by simpa using List.all_eq_true.1 hall t hm)⟩)
    (by kernel_rfl)
#print axioms nexts_holds

end Go.Proofs.YtjnlbjlejggngaaGreatDoor
