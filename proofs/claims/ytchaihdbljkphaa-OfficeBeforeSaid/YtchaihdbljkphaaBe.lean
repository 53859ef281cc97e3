/-
  PROVED HERE: the law archivumlaw06.OfficeBefore answers true for every list of offices, list of numbers and four numbers. No condition. Every input is spoken of.
-/
import Derived.Test.YtchaihdbljkphaaBe0
namespace Go.Proofs.Ytchaihdbljkphaa
open Go Go.RowKit Go.ChangeShapes Go.WideShapes Go.ChangeAt Go.Joins Go.Maps

theorem trodAll_six {H : Type} {enc : TypeId × Value → H} {P : Program} {w : World} {base : Nat} {spare : Nat → Bool} {held : Bool} {t0 t1 t2 t3 t4 t5 : TypeId} {args : Array Value} {ds : List (DataW H)} {ps : List MemPlace} (h : DataW.TrodAll enc P w base spare held [t0, t1, t2, t3, t4, t5] args.toList ds ps) :
    ∃ v0 v1 v2 v3 v4 v5 d0 d1 d2 d3 d4 d5 p0 p1 p2 p3 p4 p5, args = #[v0, v1, v2, v3, v4, v5] ∧ ds = [d0, d1, d2, d3, d4, d5] ∧ ps = p0 ++ p1 ++ p2 ++ p3 ++ p4 ++ p5 ∧ DataW.Trod enc P w base spare held t0 v0 d0 p0 ∧ DataW.Trod enc P w base spare held t1 v1 d1 p1 ∧
      DataW.Trod enc P w base spare held t2 v2 d2 p2 ∧ DataW.Trod enc P w base spare held t3 v3 d3 p3 ∧ DataW.Trod enc P w base spare held t4 v4 d4 p4 ∧ DataW.Trod enc P w base spare held t5 v5 d5 p5 := by
  obtain ⟨v0, vs0, d0, ds0, p0, q0, hargs, rfl, rfl, h0, r0⟩ := trodAll_cons h
  obtain ⟨v1, vs1, d1, ds1, p1, q1, rfl, rfl, rfl, h1, r1⟩ := trodAll_cons r0
  obtain ⟨v2, vs2, d2, ds2, p2, q2, rfl, rfl, rfl, h2, r2⟩ := trodAll_cons r1
  obtain ⟨v3, vs3, d3, ds3, p3, q3, rfl, rfl, rfl, h3, r3⟩ := trodAll_cons r2
  obtain ⟨v4, vs4, d4, ds4, p4, q4, rfl, rfl, rfl, h4, r4⟩ := trodAll_cons r3
  obtain ⟨v5, vs5, d5, ds5, p5, q5, rfl, rfl, rfl, h5, r5⟩ := trodAll_cons r4
  obtain ⟨rfl, rfl, rfl⟩ := trodAll_nil r5
  exact ⟨v0, v1, v2, v3, v4, v5, d0, d1, d2, d3, d4, d5, p0, p1, p2, p3, p4, p5, by cases args; simp_all, rfl, by simp, h0, h1, h2, h3, h4, h5⟩

set_option maxRecDepth 100000 in
set_option maxHeartbeats 8000000 in
theorem before_law (p : Option Addr) (c : Nat) (l : List Off) (id d : Int) (q : Option Addr) (cq : Nat) (nx : List Int) (other e : Int) (w : World) (hE : Env w) (hL : OffsAt w p l) (hF : ∀ x ∈ l, FitO x) (_ : I64 id) (hd : I64 d) (hs : l.length * 56 ≤ 140737488355328)
    (hN : IntsAt w q nx) (hN2 : ∀ y ∈ nx, I64 y) (hN3 : nx.length * 8 ≤ 140737488355328) (ho : I64 other) :
    Calls Try.prog 8 #[.slice p l.length c, .int .i64 id, .int .i64 d, .slice q nx.length cq, .int .i64 other, .int .i64 e] w fun e w' => e = .returned (.bool true) ∧ Below w.heap.size w w' := by
  obtain ⟨n, hl⟩ : ∃ n, l.length = n := ⟨_, rfl⟩
  obtain ⟨mx, hmx⟩ : ∃ mx, nx.length = mx := ⟨_, rfl⟩
  rw [hl] at hs ⊢
  rw [hmx]
  have HL := Lib.hid hl; have HMX := Lib.hid hmx
  have EV := Lib.hid (fun (v : World) (h : Below w.heap.size w v) => hE.below h)
  have LV := Lib.hid (fun (v : World) (h : Below w.heap.size w v) => hL.next h)
  have NV := Lib.hid (fun (v : World) (h : Below w.heap.size w v) => hN.next h)
  have FF := Lib.hid hF
  have AW := Lib.hid (awake_true w hE)
  have FE := Lib.hid (fun v h => few_any p n c l v (LV.out v h) hl (by omega) hF)
  have HH := Lib.hid (fun v h => Heir_any p n c l other e v (EV.out v h) (LV.out v h) hl hF ho)
  have EN := Lib.hid (fun v h (hn : n ≤ 1000) => End_any p n c l id d q cq nx v (EV.out v h) (LV.out v h) hl hF hn hd (NV.out v h) hN2 hN3)
  rw [hmx] at EN
  have HO := Lib.hid ho
  clear hE hL hl hF hN hN2 hN3 hmx hd ho
  by_cases ge : e < d
  case neg =>
    have g1 : decide (e ≥ d) = true := decide_eq_true (by omega)
    have g1' : decide (d ≤ e) = true := decide_eq_true (by omega)
    clear ge
    by_cases g10 : 10 < mx
    · have g2 : decide ((mx : Int) > 10) = true := decide_eq_true (by omega)
      have g2' : decide (10 < mx) = true := decide_eq_true g10
      clear g10
      go_enter Try.func8, Try.ntmps8
      go_wp2_with fail
      refine AW.out.mono ?_
      rintro e0 w2 ⟨rfl, hb⟩
      have N2 := Lib.hid hb
      clear hb AW
      go_wp2_with fail
      refine (FE.out _ N2.out).mono ?_
      rintro e0 w3 ⟨B, rfl, _, rfl⟩
      clear FE
      cases B <;> {
        go_wp2_with fail
        go_ret
        exact ⟨rfl, N2.out⟩ }
    · have g2 : decide ((mx : Int) > 10) = false := decide_eq_false (by omega)
      have g2' : decide (10 < mx) = false := decide_eq_false g10
      clear g10
      go_enter Try.func8, Try.ntmps8
      go_wp2_with fail
      refine AW.out.mono ?_
      rintro e0 w2 ⟨rfl, hb⟩
      have N2 := Lib.hid hb
      clear hb AW
      go_wp2_with fail
      refine (FE.out _ N2.out).mono ?_
      rintro e0 w3 ⟨B, rfl, _, rfl⟩
      clear FE
      cases B <;> {
        go_wp2_with fail
        go_ret
        exact ⟨rfl, N2.out⟩ }
  have g1 : decide (e ≥ d) = false := decide_eq_false (by omega)
  have g1' : decide (d ≤ e) = false := decide_eq_false (by omega)
  have GE := Lib.hid ge
  clear ge
  by_cases g10 : 10 < mx
  · have g2 : decide ((mx : Int) > 10) = true := decide_eq_true (by omega)
    have g2' : decide (10 < mx) = true := decide_eq_true g10
    clear g10
    go_enter Try.func8, Try.ntmps8
    go_wp2_with fail
    refine AW.out.mono ?_
    rintro e0 w2 ⟨rfl, hb⟩
    have N2 := Lib.hid hb
    clear hb AW
    go_wp2_with fail
    refine (FE.out _ N2.out).mono ?_
    rintro e0 w3 ⟨B, rfl, _, rfl⟩
    clear FE
    cases B <;> {
      go_wp2_with fail
      go_ret
      exact ⟨rfl, N2.out⟩ }
  have g2 : decide ((mx : Int) > 10) = false := decide_eq_false (by omega)
  have g2' : decide (10 < mx) = false := decide_eq_false g10
  go_enter Try.func8, Try.ntmps8
  go_wp2_with fail
  refine AW.out.mono ?_
  rintro e0 w2 ⟨rfl, hb⟩
  have N2 := Lib.hid hb
  clear hb AW
  go_wp2_with fail
  refine (FE.out _ N2.out).mono ?_
  rintro e0 w3 ⟨B, rfl, hB, rfl⟩
  have HB := Lib.hid hB
  clear hB FE
  cases B with
  | false =>
    go_wp2_with fail
    go_ret
    exact ⟨rfl, N2.out⟩
  | true =>
  have n37 : n ≤ 37 := by rw [← HL.out]; exact (HB.out rfl).1
  have FD := Lib.hid (fun z v h => Find_any p n c l z v (LV.out v h) HL.out (by omega))
  clear HB hs
  go_wp2_with fail
  refine (EN.out _ N2.out (by omega)).mono ?_
  rintro e0 w4 ⟨hA, hb⟩
  have N4 := Lib.hid (N2.out.trans (hb.mono N2.out.size))
  clear hb EN
  rcases hA with ⟨cd, rfl, hcd⟩ | ⟨g, cap, m, k, x, rfl, hG, hf, hlk, h1, h2, hC, hFm, hGm⟩
  · have d1 : (cd != 0) = true := by simp [hcd]
    have d0 : (((0 : Nat) : Int) == 0) = true := rfl
    clear hcd
    go_wp2_with fail
    go_ret
    exact ⟨rfl, N4.out⟩
  have EH := Lib.hid (end_heir hG hGm hlk h1 h2 hC GE.out other)
  obtain ⟨b, hb, hbf, hab⟩ := end_fnd hG hGm hlk hC hf
  have bun : b.un = d ∧ b.nx = nx := by
    rcases hab with ⟨_, _, h⟩ | ⟨_, h3, h4⟩
    · exact absurd rfl h
    · exact ⟨h3, h4⟩
  obtain ⟨k2, hk2, hlk2, hkn2⟩ := fixV_some hb
  obtain ⟨k1, hk1, _, hkn1⟩ := fixV_some hf
  have Lm : Hid (m.length = n) := by show _ = _; rw [hC.len]; unfold endL; rw [List.length_set, HL.out]
  have F1 := Lib.hid (fun v h => FD.out id v h)
  rw [hk1] at F1
  have MV := Lib.hid (fun v (h : Below w4.heap.size w4 v) => hC.next h)
  have F2 := Lib.hid (fun v h => Find_any (some ⟨g, 0, none⟩) n cap m id v (MV.out v h).offs Lm.out (by omega))
  rw [hk2] at F2
  have k1n : k1 < n := by rw [← HL.out]; exact hkn1
  have k2n : k2 < n := by rw [← Lm.out]; exact hkn2
  have HM := Lib.hid (fun v (h : Below w4.heap.size w4 v) => Heir_any (some ⟨g, 0, none⟩) n cap m other e v (EV.out v (N4.out.trans (h.mono N4.out.size))) (MV.out v h).offs Lm.out hFm HO.out)
  rw [gl_of hGm, ← EH.out] at HM
  rw [gl_of hG] at HH
  have HB2 := Lib.hid hlk2; have BU := Lib.hid bun
  have d1 : ((0 : Int) != 0) = false := rfl
  have a1 : decide ((k1 : Int) < 0) = false := decide_eq_false (by omega)
  have a2 : decide ((k2 : Int) < 0) = false := decide_eq_false (by omega)
  have a3 : decide ((k1 : Int) ≥ (n : Int)) = false := decide_eq_false (by omega)
  have a3' : decide (n ≤ k1) = false := decide_eq_false (by omega)
  have a4 : decide ((k2 : Int) ≥ (n : Int)) = false := decide_eq_false (by omega)
  have a4' : decide (n ≤ k2) = false := decide_eq_false (by omega)
  have i1 : (0 : Int) ≤ (k2 : Int) := by omega
  have i2 : (k2 : Int) < (n : Int) := by omega
  clear hG hf hlk h1 h2 hC hFm hGm hb hbf hab bun hk2 hlk2 hkn2 hk1 hkn1
  go_wp2_with fail
  refine (F1.out _ N4.out).mono ?_
  rintro e0 w5 ⟨rfl, hb⟩
  have M5 := Lib.hid hb
  have N5 := Lib.hid (N4.out.trans (hb.mono N4.out.size))
  clear hb
  go_wp2_with fail
  refine (F2.out _ M5.out).mono ?_
  rintro e0 w6 ⟨rfl, hb⟩
  have M6 := Lib.hid (M5.out.trans (hb.mono M5.out.size))
  have N6 := Lib.hid (N5.out.trans (hb.mono N5.out.size))
  clear hb
  have ha := (MV.out w6 M6.out).own.off HB2.out
  have q3 := ha.2.2.2.1; have q4 := ha.2.2.2.2
  rw [BU.out.1] at q3
  rw [BU.out.2, HMX.out] at q4
  have zb := ha.lt
  have d5 : (d != d) = false := by simp
  have EQ0 := eq_ints b.np q nx nx b.nc cq w6 (by have := ((MV.out w6 M6.out).nxs b (List.mem_of_getElem? HB2.out)).1; rw [BU.out.2] at this; exact this) (NV.out w6 N6.out) (by have := HMX.out; omega) (by have := HMX.out; omega)
  rw [decide_eq_true rfl, HMX.out] at EQ0
  have EQ := Lib.hid EQ0
  clear ha EQ0
  go_wp2_with fail
  refine EQ.out.mono ?_
  rintro e0 w7 ⟨rfl, hb⟩
  have M7 := Lib.hid (M6.out.trans (hb.mono M6.out.size))
  have N7 := Lib.hid (N6.out.trans (hb.mono N6.out.size))
  clear hb EQ q3 q4 zb
  obtain ⟨a, B, hAB⟩ : ∃ (a : Int) (B : Bool), hrV (heirF l e other) = .tuple #[.int .i64 a, .bool B] := by
    cases heirF l e other with
    | some z => exact ⟨z, true, rfl⟩
    | none => exact ⟨0, false, rfl⟩
  simp only [hAB] at HH HM
  clear hAB
  have e1 : (a == a) = true := by simp
  have e2 : (B == B) = true := by simp
  have e3 : ((n : Int) == (n : Int)) = true := by simp
  go_wp2_with fail
  refine (HH.out _ N7.out).mono ?_
  rintro e0 w8 ⟨rfl, hb⟩
  have M8 := Lib.hid (M7.out.trans (hb.mono M7.out.size))
  have N8 := Lib.hid (N7.out.trans (hb.mono N7.out.size))
  clear hb
  go_wp2_with fail
  refine (HM.out _ M8.out).mono ?_
  rintro e0 w9 ⟨rfl, hb⟩
  have N9 := Lib.hid (N8.out.trans (hb.mono N8.out.size))
  clear hb
  go_wp2_with fail
  go_ret
  exact ⟨by first | rfl | simp, N9.out⟩

set_option maxRecDepth 100000 in
set_option maxHeartbeats 8000000 in
theorem before_lifted (os : Os) (started : os.Started) (H : Type) (enc : TypeId × Value → H) :
    ReturnsInHanded {} Try.checked os 8 .any (Rows.officeBeforeSpec.pre6 enc Try.prog Try.f8 [] false) (Rows.officeBeforeSpec.post enc Try.prog Try.f8 false true false false) := by
  refine returnsInHanded_of_change_shaped (C := Try.checked) own started (by kernel_rfl) Try.func8
    (ChangeSpec.witness6 (enc := enc) (C := Try.checked) false ⟨#[], #[.slice none 0 0, .int .i64 0, .int .i64 0, .slice none 0 0, .int .i64 0, .int .i64 0], []⟩ 8 (by kernel_rfl) (by kernel_rfl) (by kernel_rfl) (by kernel_rfl)) ?_
  intro W base args ds gs before hval0 hW _ hsz hsh _
  have hval : ∀ (j : Nat) t v, Try.f8.params[j]? = some t → args[j]? = some v → Value.okWide Try.prog W .any base t v := hval0
  have hW' := hW
  obtain ⟨p, q, hA0, hV, rfl, hfz, hnd⟩ := hW
  have hA : DataW.TrodAll enc Try.prog W 0 (fun _ => true) true Try.f8.params.toList args.toList ds p := hA0
  rw [Try.params8] at hA hval
  obtain ⟨v0, v1, v2, v3, v4, v5, d0, d1, d2, d3, d4, d5, p0, p1, p2, p3, p4, p5, rfl, rfl, rfl, h0, h1, h2, h3, h4, h5⟩ := trodAll_six hA
  obtain ⟨rfl, rfl⟩ := trodVars_none hV
  obtain ⟨a0, c0, l0, rfl, g0, f0, s0, _⟩ := s_offs (hval 0 22 v0 rfl rfl) h0 (weights_at hsz (j := 0) rfl rfl)
  obtain ⟨x1, rfl, rfl, rfl, wx1⟩ := Go.ChangeShapes.open_int Try.underlying3 (hval 1 3 v1 rfl rfl) h1
  obtain ⟨x2, rfl, rfl, rfl, wx2⟩ := Go.ChangeShapes.open_int Try.underlying3 (hval 2 3 v2 rfl rfl) h2
  obtain ⟨a3, c3, l3, rfl, g3, f3, s3⟩ := s_nums (hval 3 28 v3 rfl rfl) h3 (weights_at hsz (j := 3) rfl rfl)
  obtain ⟨x4, rfl, rfl, rfl, wx4⟩ := Go.ChangeShapes.open_int Try.underlying3 (hval 4 3 v4 rfl rfl) h4
  obtain ⟨x5, rfl, rfl, rfl, wx5⟩ := Go.ChangeShapes.open_int Try.underlying3 (hval 5 3 v5 rfl rfl) h5
  refine (before_law a0 c0 l0 x1 x2 a3 c3 l3 x4 x5 W ⟨hsh⟩ g0 f0 (i64_wf wx1) (i64_wf wx2) s0 g3 f3 s3 (i64_wf wx4)).mono fun e W' ⟨he, hb⟩ => ?_
  subst he
  exact ⟨_, rfl, post_true rfl rfl (by kernel_rfl) hW' rfl hb⟩

theorem before_said : Rows.OfficeBeforeSaid :=
  OpenClaim.holds_of_wide 8 Try.f8 rfl rfl rfl rfl rfl rfl rfl ⟨rfl, rfl, rfl, rfl, rfl⟩ rfl rfl rfl rfl rfl (by kernel_rfl) Try.func8 (by kernel_rfl)
    (of_decide_eq_true (by kernel_rfl)) (by unfold Func.isWrapper; first | (rw [if_pos (by decide +kernel)]; kernel_rfl) | (rw [if_neg (by decide +kernel)]; exact ⟨rfl, rfl⟩))
    (fun os started H enc _ => before_lifted os started H enc)
#print axioms before_said

end Go.Proofs.Ytchaihdbljkphaa
