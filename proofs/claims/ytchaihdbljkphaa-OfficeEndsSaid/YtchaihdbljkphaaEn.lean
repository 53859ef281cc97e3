/-
  PROVED HERE: the law archivumlaw06.OfficeEnds answers true for every list of offices, list of numbers and two numbers. No condition. Every input is spoken of.
-/
import Derived.Test.YtchaihdbljkphaaRE
import Derived.Test.YtchaihdbljkphaaAw
namespace Go.Proofs.Ytchaihdbljkphaa
open Go Go.RowKit Go.ChangeShapes Go.WideShapes Go.ChangeAt Go.Joins Go.Maps

theorem EqO.two {a b c : Off} (h : EqO a b) (h' : EqO a c) : EqO b c :=
  ⟨h.1.symm.trans h'.1, h.2.1.symm.trans h'.2.1, h.2.2.1.symm.trans h'.2.2.1, h.2.2.2.1.symm.trans h'.2.2.2.1, h.2.2.2.2.symm.trans h'.2.2.2.2⟩
theorem Cpy.two {w w' : World} {g g' : Nat} {l m m' : List Off} (h : Cpy w g l m) (h' : Cpy w' g' l m') (j : Nat) (a b : Off) (ha : m[j]? = some a) (hb : m'[j]? = some b) : EqO a b := by
  have jl : j < l.length := by rw [← h.len]; exact (List.getElem?_eq_some_iff.1 ha).1
  exact EqO.two (h.eqs j _ a (List.getElem?_eq_getElem jl) ha) (h'.eqs j _ b (List.getElem?_eq_getElem jl) hb)
theorem endW_n8 {l m : List Off} {id d : Int} {nx : List Int} {x : Off} {k g : Nat} {w : World} (h : EndW l id d nx 0) (hG : GoodO l) (hf : fnd l id = some x) (hk : l[k]? = some x) (hC : Cpy w g (endL l k x d nx) m) : ∀ y ∈ m, y.nx.length ≤ 100000 := by
  rcases h with ⟨a1, _⟩ | ⟨_, _, a3⟩ | ⟨y, _, _, _, a4⟩ | ⟨y, k', I, a1, a2, a3, _, a5⟩
  · exact absurd hG a1
  · cases a3
  · cases a4
  · rw [hf] at a2
    obtain rfl := Option.some.inj a2
    obtain rfl := hG.inj hk a3 rfl
    intro z hz
    have := ((hC.chk.2 a5).good.1.fine hz).n8
    omega

set_option maxRecDepth 100000 in
set_option maxHeartbeats 8000000 in
theorem ends_law (p : Option Addr) (c : Nat) (l : List Off) (id d : Int) (q : Option Addr) (cq : Nat) (nx : List Int) (w : World) (hE : Env w) (hL : OffsAt w p l) (hF : ∀ x ∈ l, FitO x) (_ : I64 id) (hd : I64 d) (hs : l.length * 56 ≤ 140737488355328)
    (hN : IntsAt w q nx) (hN2 : ∀ y ∈ nx, I64 y) (hN3 : nx.length * 8 ≤ 140737488355328) :
    Calls Try.prog 5 #[.slice p l.length c, .int .i64 id, .int .i64 d, .slice q nx.length cq] w fun e w' => e = .returned (.bool true) ∧ Below w.heap.size w w' := by
  obtain ⟨n, hl⟩ : ∃ n, l.length = n := ⟨_, rfl⟩
  obtain ⟨mx, hmx⟩ : ∃ mx, nx.length = mx := ⟨_, rfl⟩
  rw [hl] at hs ⊢
  rw [hmx]
  have HL := Lib.hid hl; have HMX := Lib.hid hmx
  have EV := Lib.hid (fun (v : World) (h : Below w.heap.size w v) => hE.below h)
  have LV := Lib.hid (fun (v : World) (h : Below w.heap.size w v) => hL.next h)
  have NV := Lib.hid (fun (v : World) (h : Below w.heap.size w v) => hN.next h)
  have FF := Lib.hid hF
  have AW := Lib.hid (awake_true w hE)
  have FE := Lib.hid (fun v h => few_any p n c l v (LV.out v h) hl (by omega) hF)
  have EN := Lib.hid (fun v h (hn : n ≤ 1000) => EndX_any p n c l id d q cq nx v (EV.out v h) (LV.out v h) hl hF hn hd (NV.out v h) hN2 hN3)
  have RN := Lib.hid (fun v h (hn : n ≤ 1000) => refEnd_any p n c l id d q cq nx v (LV.out v h) hl hF hn hd (NV.out v h) hN2 hN3)
  rw [hmx] at EN RN
  clear hE hL hl hF hN hN2 hN3 hmx hd
  by_cases g10 : 10 < mx
  · have g2 : decide ((mx : Int) > 10) = true := decide_eq_true (by omega)
    have g2' : decide (10 < mx) = true := decide_eq_true g10
    clear g10
    go_enter Try.func5, Try.ntmps5
    go_wp2_with fail
    refine AW.out.mono ?_
    rintro e0 w2 ⟨rfl, hb⟩
    have N2 := Lib.hid hb
    clear hb AW
    go_wp2_with fail
    refine (FE.out _ N2.out).mono ?_
    rintro e0 w3 ⟨B, rfl, _, rfl⟩
    clear FE
    cases B <;> {
      go_wp2_with fail
      go_ret
      exact ⟨rfl, N2.out⟩ }
  have g2 : decide ((mx : Int) > 10) = false := decide_eq_false (by omega)
  have g2' : decide (10 < mx) = false := decide_eq_false g10
  go_enter Try.func5, Try.ntmps5
  go_wp2_with fail
  refine AW.out.mono ?_
  rintro e0 w2 ⟨rfl, hb⟩
  have N2 := Lib.hid hb
  clear hb AW
  go_wp2_with fail
  refine (FE.out _ N2.out).mono ?_
  rintro e0 w3 ⟨B, rfl, hB, rfl⟩
  have HB := Lib.hid hB
  clear hB FE
  cases B with
  | false =>
    go_wp2_with fail
    go_ret
    exact ⟨rfl, N2.out⟩
  | true =>
  have n37 : n ≤ 37 := by rw [← HL.out]; exact (HB.out rfl).1
  clear HB hs
  go_wp2_with fail
  refine (EN.out _ N2.out (by omega)).mono ?_
  rintro e0 w4 ⟨cd, hW, hA, hb⟩
  have N4 := Lib.hid (N2.out.trans (hb.mono N2.out.size))
  have HW := Lib.hid hW
  clear hb EN hW
  rcases hA with ⟨hcd, rfl⟩ | ⟨rfl, g, cap, m, k, x, rfl, hG, hf, hlk, hC, hFm⟩
  · have HZ := Lib.hid hcd
    clear hcd
    go_wp2_with fail
    refine (RN.out _ N4.out (by omega)).mono ?_
    rintro e0 w5 ⟨cd2, hW2, hA2, hb⟩
    have N5 := Lib.hid (N4.out.trans (hb.mono N4.out.size))
    obtain rfl := endW_one HW.out hW2
    clear hb RN hW2
    rcases hA2 with ⟨_, rfl⟩ | ⟨h0, _⟩
    case inr => exact absurd h0 HZ.out
    have SA := Lib.hid (Same_any none none 0 0 0 [] [] w5 (.inl rfl) (.inl rfl) rfl rfl (by omega) (fun x hx => by cases hx) (fun j a b ha _ => by simp at ha))
    have ec : (cd == cd) = true := by simp
    go_wp2_with fail
    refine SA.out.mono ?_
    rintro e0 w6 ⟨rfl, hb⟩
    have N6 := Lib.hid (N5.out.trans (hb.mono N5.out.size))
    clear hb SA
    go_wp2_with fail
    go_ret
    exact ⟨by first | rfl | simp, N6.out⟩
  · have CC := Lib.hid hC; have GG := Lib.hid hG; have HF := Lib.hid hf; have HK := Lib.hid hlk
    clear hG hf hlk hC hFm
    go_wp2_with fail
    refine (RN.out _ N4.out (by omega)).mono ?_
    rintro e0 w5 ⟨cd2, hW2, hA2, hb⟩
    have N5 := Lib.hid (N4.out.trans (hb.mono N4.out.size))
    obtain rfl := endW_one HW.out hW2
    have C5 := Lib.hid (CC.out.next hb)
    clear hb RN hW2
    rcases hA2 with ⟨h0, _⟩ | ⟨_, g', cap', m', k', x', rfl, _, hf', hlk', hC', _⟩
    · exact absurd rfl h0
    rw [HF.out] at hf'
    obtain rfl := Option.some.inj hf'
    obtain rfl := GG.out.inj HK.out hlk' rfl
    have LE : (endL l k x d nx).length = n := by unfold endL; rw [List.length_set, HL.out]
    have SA := Lib.hid (Same_any (some ⟨g, 0, none⟩) (some ⟨g', 0, none⟩) n cap cap' m m' w5 C5.out.offs hC'.offs (C5.out.len.trans LE) (hC'.len.trans LE) (by omega) (endW_n8 HW.out GG.out HF.out HK.out C5.out) (C5.out.two hC'))
    clear hf' hlk' hC' LE
    go_wp2_with fail
    refine SA.out.mono ?_
    rintro e0 w6 ⟨rfl, hb⟩
    have N6 := Lib.hid (N5.out.trans (hb.mono N5.out.size))
    clear hb SA
    go_wp2_with fail
    go_ret
    exact ⟨by first | rfl | simp, N6.out⟩

set_option maxRecDepth 100000 in
set_option maxHeartbeats 8000000 in
theorem ends_lifted (os : Os) (started : os.Started) (H : Type) (enc : TypeId × Value → H) :
    ReturnsInHanded {} Try.checked os 5 .any (Rows.officeEndsSpec.pre6 enc Try.prog Try.f5 [] false) (Rows.officeEndsSpec.post enc Try.prog Try.f5 false true false false) := by
  refine returnsInHanded_of_change_shaped (C := Try.checked) own started (by kernel_rfl) Try.func5
    (ChangeSpec.witness6 (enc := enc) (C := Try.checked) false ⟨#[], #[.slice none 0 0, .int .i64 0, .int .i64 0, .slice none 0 0], []⟩ 8 (by kernel_rfl) (by kernel_rfl) (by kernel_rfl) (by kernel_rfl)) ?_
  intro W base args ds gs before hval0 hW _ hsz hsh _
  have hval : ∀ (j : Nat) t v, Try.f5.params[j]? = some t → args[j]? = some v → Value.okWide Try.prog W .any base t v := hval0
  have hW' := hW
  obtain ⟨p, q, hA0, hV, rfl, hfz, hnd⟩ := hW
  have hA : DataW.TrodAll enc Try.prog W 0 (fun _ => true) true Try.f5.params.toList args.toList ds p := hA0
  rw [Try.params5] at hA hval
  obtain ⟨v0, v1, v2, v3, d0, d1, d2, d3, p0, p1, p2, p3, rfl, rfl, rfl, h0, h1, h2, h3⟩ := trodAll_four hA
  obtain ⟨rfl, rfl⟩ := trodVars_none hV
  obtain ⟨a0, c0, l0, rfl, g0, f0, s0, _⟩ := s_offs (hval 0 22 v0 rfl rfl) h0 (weights_at hsz (j := 0) rfl rfl)
  obtain ⟨x1, rfl, rfl, rfl, wx1⟩ := Go.ChangeShapes.open_int Try.underlying3 (hval 1 3 v1 rfl rfl) h1
  obtain ⟨x2, rfl, rfl, rfl, wx2⟩ := Go.ChangeShapes.open_int Try.underlying3 (hval 2 3 v2 rfl rfl) h2
  obtain ⟨a3, c3, l3, rfl, g3, f3, s3⟩ := s_nums (hval 3 28 v3 rfl rfl) h3 (weights_at hsz (j := 3) rfl rfl)
  refine (ends_law a0 c0 l0 x1 x2 a3 c3 l3 W ⟨hsh⟩ g0 f0 (i64_wf wx1) (i64_wf wx2) s0 g3 f3 s3).mono fun e W' ⟨he, hb⟩ => ?_
  subst he
  exact ⟨_, rfl, post_true rfl rfl (by kernel_rfl) hW' rfl hb⟩

theorem ends_said : Rows.OfficeEndsSaid :=
  OpenClaim.holds_of_wide 5 Try.f5 rfl rfl rfl rfl rfl rfl rfl ⟨rfl, rfl, rfl, rfl, rfl⟩ rfl rfl rfl rfl rfl (by kernel_rfl) Try.func5 (by kernel_rfl)
    (of_decide_eq_true (by kernel_rfl)) (by unfold Func.isWrapper; first | (rw [if_pos (by decide +kernel)]; kernel_rfl) | (rw [if_neg (by decide +kernel)]; exact ⟨rfl, rfl⟩))
    (fun os started H enc _ => ends_lifted os started H enc)
#print axioms ends_said

end Go.Proofs.Ytchaihdbljkphaa
