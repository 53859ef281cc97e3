/-
  PROVED HERE: the law archivumlaw06.OfficeChains answers true for every list of offices and two numbers. No condition. Every input is spoken of.
-/
import Derived.Test.YtchaihdbljkphaaRh
namespace Go.Proofs.Ytchaihdbljkphaa
open Go Go.RowKit Go.ChangeShapes Go.WideShapes Go.ChangeAt Go.Joins Go.Maps

set_option maxRecDepth 100000 in
set_option maxHeartbeats 8000000 in
theorem chains_law (p : Option Addr) (c : Nat) (l : List Off) (id d : Int) (w : World) (hE : Env w) (hL : OffsAt w p l) (hF : ∀ x ∈ l, FitO x) (hi : I64 id) (hs : l.length * 56 ≤ 140737488355328) :
    Calls Try.prog 3 #[.slice p l.length c, .int .i64 id, .int .i64 d] w fun e w' => e = .returned (.bool true) ∧ Below w.heap.size w w' := by
  obtain ⟨n, hl⟩ : ∃ n, l.length = n := ⟨_, rfl⟩
  rw [hl] at hs ⊢
  have HL := Lib.hid hl
  have EV := Lib.hid (fun (v : World) (h : Below w.heap.size w v) => hE.below h)
  have LV := Lib.hid (fun (v : World) (h : Below w.heap.size w v) => hL.next h)
  have FF := Lib.hid hF
  have AW := Lib.hid (awake_true w hE)
  have FE := Lib.hid (fun v h => few_any p n c l v (LV.out v h) hl (by omega) hF)
  obtain ⟨ch, hch, hc2⟩ := (gl_good l).chl d id
  have CN := Lib.hid (fun v h => Chain_any p n c l id d v (EV.out v h) (LV.out v h) hl hF hi ch hch hc2)
  have HH := Lib.hid (fun v h => Heir_any p n c l id d v (EV.out v h) (LV.out v h) hl hF hi)
  have CHN := Lib.hid hch
  have C2 := Lib.hid hc2
  clear hE hL hl hF hi hch hc2
  go_enter Try.func3, Try.ntmps3
  go_wp2_with fail
  refine AW.out.mono ?_
  rintro e w2 ⟨rfl, hb⟩
  have N2 := Lib.hid hb
  clear hb AW
  go_wp2_with fail
  refine (FE.out _ N2.out).mono ?_
  rintro e w3 ⟨B, rfl, hB, rfl⟩
  have HB := Lib.hid hB
  clear hB FE
  cases B with
  | false =>
    go_wp2_with fail
    go_ret
    exact ⟨rfl, N2.out⟩
  | true =>
  have n37 : n ≤ 37 := by rw [← HL.out]; exact (HB.out rfl).1
  have RH := Lib.hid (fun v h => refHeir_any p n c l id d v (LV.out v h) HL.out (by omega) FF.out)
  have RC := Lib.hid (fun v h => refChain_any p n c l id d v (LV.out v h) HL.out (by omega) FF.out ch CHN.out C2.out)
  clear HB hs
  obtain ⟨a, B, hAB⟩ : ∃ (a : Int) (B : Bool), hrV (heirF (gl l) d id) = .tuple #[.int .i64 a, .bool B] := by
    cases heirF (gl l) d id with
    | some z => exact ⟨z, true, rfl⟩
    | none => exact ⟨0, false, rfl⟩
  simp only [hAB] at HH RH
  clear hAB
  have d1 : (a == a) = true := by simp
  have d2 : (B == B) = true := by simp
  go_wp2_with fail
  refine (HH.out _ N2.out).mono ?_
  rintro e w4 ⟨rfl, hb⟩
  have N4 := Lib.hid (N2.out.trans (hb.mono N2.out.size))
  clear hb HH
  go_wp2_with fail
  refine (RH.out _ N4.out).mono ?_
  rintro e w5 ⟨rfl, hb⟩
  have N5 := Lib.hid (N4.out.trans (hb.mono N4.out.size))
  clear hb RH
  go_wp2_with fail
  refine (CN.out _ N5.out).mono ?_
  rintro e w6 ⟨r, rfl, hr, hb⟩
  obtain ⟨p6, c6, rfl, hI⟩ := hr.open'
  have N6 := Lib.hid (N5.out.trans (hb.mono N5.out.size))
  have I6 := Lib.hid (fun v (h : Below w6.heap.size w6 v) => hI.next h)
  clear hr hb hI CN
  go_wp2_with fail
  refine (RC.out _ N6.out).mono ?_
  rintro e w7 ⟨r, rfl, hr, hb⟩
  obtain ⟨p7, c7, rfl, hI⟩ := hr.open'
  have N7 := Lib.hid (N6.out.trans (hb.mono N6.out.size))
  have SI := Lib.hid (same_ints p6 p7 ch c6 c7 w7 (I6.out _ hb) hI (by have := C2.out; omega))
  clear hr hb hI RC
  go_wp2_with fail
  refine SI.out.mono ?_
  rintro e w8 ⟨rfl, hb⟩
  have N8 := Lib.hid (N7.out.trans (hb.mono N7.out.size))
  clear hb SI
  go_wp2_with fail
  go_ret
  exact ⟨by first | rfl | simp, N8.out⟩

set_option maxRecDepth 100000 in
set_option maxHeartbeats 8000000 in
theorem chains_lifted (os : Os) (started : os.Started) (H : Type) (enc : TypeId × Value → H) :
    ReturnsInHanded {} Try.checked os 3 .any (Rows.officeChainsSpec.pre6 enc Try.prog Try.f3 [] false) (Rows.officeChainsSpec.post enc Try.prog Try.f3 false true false false) := by
  refine returnsInHanded_of_change_shaped (C := Try.checked) own started (by kernel_rfl) Try.func3
    (ChangeSpec.witness6 (enc := enc) (C := Try.checked) false ⟨#[], #[.slice none 0 0, .int .i64 0, .int .i64 0], []⟩ 8 (by kernel_rfl) (by kernel_rfl) (by kernel_rfl) (by kernel_rfl)) ?_
  intro W base args ds gs before hval0 hW _ hsz hsh _
  have hval : ∀ (j : Nat) t v, Try.f3.params[j]? = some t → args[j]? = some v → Value.okWide Try.prog W .any base t v := hval0
  have hW' := hW
  obtain ⟨p, q, hA0, hV, rfl, hfz, hnd⟩ := hW
  have hA : DataW.TrodAll enc Try.prog W 0 (fun _ => true) true Try.f3.params.toList args.toList ds p := hA0
  rw [Try.params3] at hA hval
  obtain ⟨v0, v1, v2, d0, d1, d2, p0, p1, p2, rfl, rfl, rfl, h0, h1, h2⟩ := trodAll_three hA
  obtain ⟨rfl, rfl⟩ := trodVars_none hV
  obtain ⟨a0, c0, l0, rfl, g0, f0, s0, _⟩ := s_offs (hval 0 22 v0 rfl rfl) h0 (weights_at hsz (j := 0) rfl rfl)
  obtain ⟨x1, rfl, rfl, rfl, wx1⟩ := Go.ChangeShapes.open_int Try.underlying3 (hval 1 3 v1 rfl rfl) h1
  obtain ⟨x2, rfl, rfl, rfl, wx2⟩ := Go.ChangeShapes.open_int Try.underlying3 (hval 2 3 v2 rfl rfl) h2
  refine (chains_law a0 c0 l0 x1 x2 W ⟨hsh⟩ g0 f0 (i64_wf wx1) s0).mono fun e W' ⟨he, hb⟩ => ?_
  subst he
  exact ⟨_, rfl, post_true rfl rfl (by kernel_rfl) hW' rfl hb⟩

theorem chains_said : Rows.OfficeChainsSaid :=
  OpenClaim.holds_of_wide 3 Try.f3 rfl rfl rfl rfl rfl rfl rfl ⟨rfl, rfl, rfl, rfl, rfl⟩ rfl rfl rfl rfl rfl (by kernel_rfl) Try.func3 (by kernel_rfl)
    (of_decide_eq_true (by kernel_rfl)) (by unfold Func.isWrapper; first | (rw [if_pos (by decide +kernel)]; kernel_rfl) | (rw [if_neg (by decide +kernel)]; exact ⟨rfl, rfl⟩))
    (fun os started H enc _ => chains_lifted os started H enc)
#print axioms chains_said

end Go.Proofs.Ytchaihdbljkphaa
