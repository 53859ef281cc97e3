/-
  PROVED HERE: the law archivumlaw06.OfficeReaches answers true for every list of offices and two numbers. No condition. Every input is spoken of.
-/
import Derived.Test.YtchaihdbljkphaaRd
namespace Go.Proofs.Ytchaihdbljkphaa
open Go Go.RowKit Go.ChangeShapes Go.WideShapes Go.ChangeAt Go.Joins Go.Maps

set_option maxRecDepth 100000 in
set_option maxHeartbeats 8000000 in
theorem reaches_law (p : Option Addr) (c : Nat) (l : List Off) (id d : Int) (w : World) (hE : Env w) (hL : OffsAt w p l) (hF : ∀ x ∈ l, FitO x) (hi : I64 id) (hs : l.length * 56 ≤ 140737488355328) :
    Calls Try.prog 4 #[.slice p l.length c, .int .i64 id, .int .i64 d] w fun e w' => e = .returned (.bool true) ∧ Below w.heap.size w w' := by
  obtain ⟨n, hl⟩ : ∃ n, l.length = n := ⟨_, rfl⟩
  rw [hl] at hs ⊢
  have HL := Lib.hid hl
  have EV := Lib.hid (fun (v : World) (h : Below w.heap.size w v) => hE.below h)
  have LV := Lib.hid (fun (v : World) (h : Below w.heap.size w v) => hL.next h)
  have FF := Lib.hid hF
  have AW := Lib.hid (awake_true w hE)
  have FE := Lib.hid (fun v h => few_any p n c l v (LV.out v h) hl (by omega) hF)
  have RE := Lib.hid (fun v h => Reach_any p n c l id v (EV.out v h) (LV.out v h) hl hF hi)
  have DU := Lib.hid (fun v h => Duties_any p n c l id d v (EV.out v h) (LV.out v h) hl hF)
  have L1 : Hid ((reachL (gl l) id).length ≤ n) := by
    show _ ≤ _
    refine Nat.le_trans (List.length_filter_le _ _) ?_
    rw [List.length_map, ← hl]
    unfold gl
    split
    · exact Nat.le_refl _
    · exact Nat.zero_le _
  have L2 : Hid ((dutL (gl l) id d).length ≤ n) := by
    show _ ≤ _
    refine Nat.le_trans (List.length_filter_le _ _) ?_
    rw [List.length_map, ← hl]
    unfold gl
    split
    · exact Nat.le_refl _
    · exact Nat.zero_le _
  obtain ⟨A, hA⟩ : ∃ A, reachL (gl l) id = A := ⟨_, rfl⟩
  obtain ⟨D, hD⟩ : ∃ D, dutL (gl l) id d = D := ⟨_, rfl⟩
  rw [hA] at RE L1
  rw [hD] at DU L2
  have HA := Lib.hid hA; have HD := Lib.hid hD
  clear hE hL hl hF hi hA hD
  go_enter Try.func4, Try.ntmps4
  go_wp2_with fail
  refine AW.out.mono ?_
  rintro e w2 ⟨rfl, hb⟩
  have N2 := Lib.hid hb
  clear hb AW
  go_wp2_with fail
  refine (FE.out _ N2.out).mono ?_
  rintro e w3 ⟨B, rfl, hB, rfl⟩
  have HB := Lib.hid hB
  clear hB FE
  cases B with
  | false =>
    go_wp2_with fail
    go_ret
    exact ⟨rfl, N2.out⟩
  | true =>
  have n37 : n ≤ 37 := by rw [← HL.out]; exact (HB.out rfl).1
  have RR := Lib.hid (fun v h => refReach_any p n c l id v (LV.out v h) HL.out (by omega) FF.out)
  have RD := Lib.hid (fun v h => refDuties_any p n c l id d v (LV.out v h) HL.out (by omega) FF.out)
  rw [HA.out] at RR
  rw [HD.out] at RD
  clear HB hs HA HD
  go_wp2_with fail
  refine (RE.out _ N2.out).mono ?_
  rintro e w4 ⟨r, rfl, hr, hb⟩
  obtain ⟨p4, c4, rfl, hI⟩ := hr.open'
  have N4 := Lib.hid (N2.out.trans (hb.mono N2.out.size))
  have I4 := Lib.hid (fun v (h : Below w4.heap.size w4 v) => hI.next h)
  clear hr hb hI RE
  go_wp2_with fail
  refine (RR.out _ N4.out).mono ?_
  rintro e w5 ⟨r, rfl, hr, hb⟩
  obtain ⟨p5, c5, rfl, hI⟩ := hr.open'
  have N5 := Lib.hid (N4.out.trans (hb.mono N4.out.size))
  have SI := Lib.hid (same_ints p4 p5 A c4 c5 w5 (I4.out _ hb) hI (by have := L1.out; omega))
  clear hr hb hI RR
  go_wp2_with fail
  refine SI.out.mono ?_
  rintro e w6 ⟨rfl, hb⟩
  have N6 := Lib.hid (N5.out.trans (hb.mono N5.out.size))
  clear hb SI
  go_wp2_with fail
  refine (DU.out _ N6.out).mono ?_
  rintro e w7 ⟨r, rfl, hr, hb⟩
  obtain ⟨p7, c7, rfl, hI⟩ := hr.open'
  have N7 := Lib.hid (N6.out.trans (hb.mono N6.out.size))
  have I7 := Lib.hid (fun v (h : Below w7.heap.size w7 v) => hI.next h)
  clear hr hb hI DU
  go_wp2_with fail
  refine (RD.out _ N7.out).mono ?_
  rintro e w8 ⟨r, rfl, hr, hb⟩
  obtain ⟨p8, c8, rfl, hI⟩ := hr.open'
  have N8 := Lib.hid (N7.out.trans (hb.mono N7.out.size))
  have SI := Lib.hid (same_ints p7 p8 D c7 c8 w8 (I7.out _ hb) hI (by have := L2.out; omega))
  clear hr hb hI RD
  go_wp2_with fail
  refine SI.out.mono ?_
  rintro e w9 ⟨rfl, hb⟩
  have N9 := Lib.hid (N8.out.trans (hb.mono N8.out.size))
  clear hb SI
  go_wp2_with fail
  go_ret
  exact ⟨by first | rfl | simp, N9.out⟩

set_option maxRecDepth 100000 in
set_option maxHeartbeats 8000000 in
theorem reaches_lifted (os : Os) (started : os.Started) (H : Type) (enc : TypeId × Value → H) :
    ReturnsInHanded {} Try.checked os 4 .any (Rows.officeReachesSpec.pre6 enc Try.prog Try.f4 [] false) (Rows.officeReachesSpec.post enc Try.prog Try.f4 false true false false) := by
  refine returnsInHanded_of_change_shaped (C := Try.checked) own started (by kernel_rfl) Try.func4
    (ChangeSpec.witness6 (enc := enc) (C := Try.checked) false ⟨#[], #[.slice none 0 0, .int .i64 0, .int .i64 0], []⟩ 8 (by kernel_rfl) (by kernel_rfl) (by kernel_rfl) (by kernel_rfl)) ?_
  intro W base args ds gs before hval0 hW _ hsz hsh _
  have hval : ∀ (j : Nat) t v, Try.f4.params[j]? = some t → args[j]? = some v → Value.okWide Try.prog W .any base t v := hval0
  have hW' := hW
  obtain ⟨p, q, hA0, hV, rfl, hfz, hnd⟩ := hW
  have hA : DataW.TrodAll enc Try.prog W 0 (fun _ => true) true Try.f4.params.toList args.toList ds p := hA0
  rw [Try.params4] at hA hval
  obtain ⟨v0, v1, v2, d0, d1, d2, p0, p1, p2, rfl, rfl, rfl, h0, h1, h2⟩ := trodAll_three hA
  obtain ⟨rfl, rfl⟩ := trodVars_none hV
  obtain ⟨a0, c0, l0, rfl, g0, f0, s0, _⟩ := s_offs (hval 0 22 v0 rfl rfl) h0 (weights_at hsz (j := 0) rfl rfl)
  obtain ⟨x1, rfl, rfl, rfl, wx1⟩ := Go.ChangeShapes.open_int Try.underlying3 (hval 1 3 v1 rfl rfl) h1
  obtain ⟨x2, rfl, rfl, rfl, wx2⟩ := Go.ChangeShapes.open_int Try.underlying3 (hval 2 3 v2 rfl rfl) h2
  refine (reaches_law a0 c0 l0 x1 x2 W ⟨hsh⟩ g0 f0 (i64_wf wx1) s0).mono fun e W' ⟨he, hb⟩ => ?_
  subst he
  exact ⟨_, rfl, post_true rfl rfl (by kernel_rfl) hW' rfl hb⟩

theorem reaches_said : Rows.OfficeReachesSaid :=
  OpenClaim.holds_of_wide 4 Try.f4 rfl rfl rfl rfl rfl rfl rfl ⟨rfl, rfl, rfl, rfl, rfl⟩ rfl rfl rfl rfl rfl (by kernel_rfl) Try.func4 (by kernel_rfl)
    (of_decide_eq_true (by kernel_rfl)) (by unfold Func.isWrapper; first | (rw [if_pos (by decide +kernel)]; kernel_rfl) | (rw [if_neg (by decide +kernel)]; exact ⟨rfl, rfl⟩))
    (fun os started H enc _ => reaches_lifted os started H enc)
#print axioms reaches_said

end Go.Proofs.Ytchaihdbljkphaa
