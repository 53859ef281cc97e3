/-
  PROVED HERE: the law archivumlaw07.PlanThrough answers true for every list of versions, three numbers and every string. Condition: the listed variables hold what the program's text lays in them. Every input is spoken of.
-/
import Derived.Test.YtjnlbjlejggngaaDoorEy
import Derived.Test.YtjnlbjlejggngaaDoorKp
import Derived.Test.YtjnlbjlejggngaaDoorFq
import Derived.Test.YtjnlbjlejggngaaDoorMo
namespace Go.Proofs.YtjnlbjlejggngaaDoor
open Go Go.RowKit Go.ChangeShapes Go.WideShapes Go.ChangeAt Go.Joins

/-- What three calls of Follow answer. -/
theorem thr {l : List Pln} {I E a b c : Int} {s R1 R2 R3 : ByteArray} {r1 r2 r3 : Int} (hC : ChkIs l I E) (h1 : FolIs l E a b s R1 r1) (h2 : FolIs l E b c R1 R2 r2) (h3 : FolIs l E a c s R3 r3) :
    (r1 ≠ 0 ∧ R1 = emp) ∨ (r1 = 0 ∧ ((r2 = 7 ∧ R2 = emp ∧ (c < b ∨ (l.length : Int) < c)) ∨ (r2 = 0 ∧ r3 = 0 ∧ R2 = R3 ∧ ∃ (c' : Nat) (z : Pln), c = c' ∧ 1 ≤ c' ∧ c' ≤ l.length ∧ l[c' - 1]? = some z ∧ has z.cs R3 = true))) := by
  rcases h1 with ⟨_, e, f⟩ | ⟨_, _, e, f⟩ | ⟨e0, a', b', x, rfl, rfl, g1, g2, g3, g4, g5⟩
  · exact .inl ⟨by omega, e⟩
  · exact .inl ⟨by omega, e⟩
  rcases g5 with ⟨_, e, f⟩ | ⟨k1, k2, k3⟩
  · exact .inl ⟨by omega, e⟩
  subst e0
  refine .inr ⟨k3, ?_⟩
  obtain ⟨y, hy⟩ : ∃ y, l[b' - 1]? = some y := ⟨_, List.getElem?_eq_getElem (by omega)⟩
  have hy1 : has y.cs R1 = true := by rw [k2]; exact walk_on hC g1 g2 g4 hy k1
  rcases h2 with ⟨e, _⟩ | ⟨_, e1, e2, e3⟩ | ⟨_, b'', c', y', j1, rfl, j2, j3, j4, j5, j6⟩
  · exact absurd rfl e
  · exact .inl ⟨e3, e2, by omega⟩
  obtain rfl : b' = b'' := by omega
  obtain rfl : y = y' := Option.some.inj (hy.symm.trans j5)
  rcases j6 with ⟨m1, _⟩ | ⟨_, m2, m3⟩
  · rw [hy1] at m1; cases m1
  rcases h3 with ⟨e, _⟩ | ⟨_, e1, e2, e3⟩ | ⟨_, a'', c'', x', n1, n2, n3, n4, n5, n6, n7⟩
  · exact absurd rfl e
  · omega
  obtain rfl : a' = a'' := by omega
  obtain rfl : c' = c'' := by omega
  obtain rfl : x = x' := Option.some.inj (g4.symm.trans n6)
  rcases n7 with ⟨m1, _⟩ | ⟨_, o2, o3⟩
  · rw [k1] at m1; cases m1
  obtain ⟨z, hz⟩ : ∃ z, l[c' - 1]? = some z := ⟨_, List.getElem?_eq_getElem (by omega)⟩
  refine .inr ⟨m3, o3, ?_, c', z, rfl, by omega, j4, hz, by rw [o2]; exact walk_on hC n3 n4 g4 hz k1⟩
  obtain ⟨q1, q2, q3⟩ := subl_cut (l := l) (a := a') (b := b') (c := c') g1 g2 j3 hy
  rw [m2, k2, o2, q1, q2, q3]
  exact (walkF_split _ y _ s).symm
theorem fit_few {x : Pln} (h : FewP x) : Fit x := ⟨by have := h.1; omega, by have := h.2.1; omega, fun y hy => by have := h.2.2.1 y hy; exact ⟨by omega, by omega⟩, fun y hy => by have := h.2.2.2 y hy; exact ⟨by omega, by omega⟩⟩
/-- What Follow answers is short. -/
theorem fol_short {l : List Pln} {I E a b : Int} {s R : ByteArray} {r : Int} (hC : ChkIs l I E) (h : FolIs l E a b s R r) (hF : ∀ y ∈ l, FewP y) : R.size ≤ 1000000000000 := by
  rcases h with ⟨_, rfl, _⟩ | ⟨_, _, rfl, _⟩ | ⟨rfl, a', b', x, rfl, rfl, g1, g2, g3, g4, g5⟩
  · exact Nat.zero_le _
  · exact Nat.zero_le _
  rcases g5 with ⟨_, rfl, _⟩ | ⟨k1, rfl, _⟩
  · exact Nat.zero_le _
  obtain ⟨y, hy⟩ : ∃ y, l[b' - 1]? = some y := ⟨_, List.getElem?_eq_getElem (by omega)⟩
  obtain ⟨q, hq, he⟩ := has_iff.1 (walk_on hC g1 g2 g4 hy k1)
  rw [← he]
  have := (hF y (List.mem_of_getElem? hy)).2.2.1 q hq
  omega

set_option maxRecDepth 100000 in
set_option maxHeartbeats 8000000 in
theorem through_law (p : Option Addr) (c : Nat) (l : List Pln) (d1 d2 d3 : Int) (s : ByteArray) (w : World) (hE : Env w) (hL : PlnsAt w p l) (hc : l.length ≤ c) :
    Calls Tryd.prog 3 #[.slice p l.length c, .int .i64 d1, .int .i64 d2, .int .i64 d3, .string s] w fun e w' => e = .returned (.bool true) ∧ Below w.heap.size w w' := by
  obtain ⟨n, hl⟩ : ∃ n, l.length = n := ⟨_, rfl⟩
  rw [hl] at hc ⊢
  have HL := Lib.hid hl
  have EV := Lib.hid (fun (v : World) (h : Below w.heap.size w v) => hE.below h)
  have LV := Lib.hid (fun (v : World) (h : Below w.heap.size w v) => hL.next h)
  have AW := Lib.hid (awakeP_true w hE)
  have FE := Lib.hid (fun v h => FewPlans_any p n c l v (LV.out v h) hl)
  obtain ⟨I, E, hIE⟩ := chk_ex l
  have CH := Lib.hid hIE
  clear hE hL hl hIE
  go_enter Tryd.func3, Tryd.ntmps3
  go_wp2_with fail
  refine AW.out.mono ?_
  rintro e w2 ⟨rfl, hb2⟩
  have N2 := Lib.hid hb2
  clear hb2 AW
  go_wp2_with fail
  refine (FE.out w2 N2.out).mono ?_
  rintro e w3 ⟨B, rfl, hB, hb⟩
  have N3 := Lib.hid (N2.out.trans (hb.mono N2.out.size))
  have HB := Lib.hid hB
  clear hb hB FE
  cases B with
  | false =>
    go_wp2_with fail
    go_ret
    exact ⟨rfl, N3.out⟩
  | true =>
  by_cases h1 : 100 < s.size
  · have e1 : decide ((s.size : Int) > 100) = true := by simp; omega
    have e1' : decide ((100 : Int) < (s.size : Int)) = true := by simp; omega
    clear h1
    go_wp2_with fail
    go_ret
    exact ⟨rfl, N3.out⟩
  have e1 : decide ((s.size : Int) > 100) = false := by simp; omega
  have e1' : decide ((100 : Int) < (s.size : Int)) = false := by simp; omega
  have hF : FewL l := HB.out rfl
  have hn : n ≤ 21 := by have := hF.1; have := HL.out; omega
  obtain ⟨R1, r1, hR1⟩ := fol_ex l E d1 d2 s
  obtain ⟨R2, r2, hR2⟩ := fol_ex l E d2 d3 R1
  obtain ⟨R3, r3, hR3⟩ := fol_ex l E d1 d3 s
  have TH := Lib.hid (thr CH.out hR1 hR2 hR3)
  have sz1 := fol_short CH.out hR1 hF.2
  have sz3 := fol_short CH.out hR3 hF.2
  have G1 := Lib.hid hR1; have G2 := Lib.hid hR2; have G3 := Lib.hid hR3
  have FF := Lib.hid (show ∀ y ∈ l, Fit y from fun y hy => fit_few (hF.2 y hy))
  have C1 := Lib.hid (fun v h => Follow_any p n c l d1 d2 s v (EV.out v h) (LV.out v h) HL.out hc (by omega) FF.out I E CH.out (by omega) R1 r1 G1.out)
  have C2 := Lib.hid (fun v h => Follow_any p n c l d2 d3 R1 v (EV.out v h) (LV.out v h) HL.out hc (by omega) FF.out I E CH.out (by omega) R2 r2 G2.out)
  have C3 := Lib.hid (fun v h => Follow_any p n c l d1 d3 s v (EV.out v h) (LV.out v h) HL.out hc (by omega) FF.out I E CH.out (by omega) R3 r3 G3.out)
  clear hF HB h1 hR1 hR2 hR3 sz1 sz3
  go_wp2_with fail
  refine (C1.out _ N3.out).mono ?_
  rintro e w4 ⟨rfl, hb⟩
  have N4 := Lib.hid (N3.out.trans (hb.mono N3.out.size))
  clear hb C1
  rcases TH.out with ⟨t1, t2⟩ | ⟨t1, t2⟩
  · have f1 : (r1 != 0) = true := by simp [t1]
    subst t2
    clear t1 C2 C3 G1 G2 G3 TH
    unfold emp
    go_wp2_with fail
    go_ret
    exact ⟨by first | rfl | simp, N4.out⟩
  have f1 : (r1 != 0) = false := by simp [t1]
  have T2 := Lib.hid t2
  clear t1 t2 TH
  go_wp2_with fail
  refine (C2.out _ N4.out).mono ?_
  rintro e w5 ⟨rfl, hb⟩
  have N5 := Lib.hid (N4.out.trans (hb.mono N4.out.size))
  clear hb C2
  go_wp2_with fail
  refine (C3.out _ N5.out).mono ?_
  rintro e w6 ⟨rfl, hb⟩
  have N6 := Lib.hid (N5.out.trans (hb.mono N5.out.size))
  clear hb C3
  rcases T2.out with ⟨rfl, rfl, t3⟩ | ⟨rfl, rfl, rfl, c', z, rfl, k1, k2, k3, k4⟩
  · have t3' : d3 < d2 ∨ (n : Int) < d3 := by rw [← HL.out]; exact t3
    unfold emp
    clear T2 t3 G1 G2 G3
    by_cases u1 : d3 < d2
    · have v1 : decide (d3 < d2) = true := decide_eq_true u1
      clear t3' u1
      go_wp2_with fail
      go_ret
      exact ⟨by first | rfl | simp, N6.out⟩
    · have v1 : decide (d3 < d2) = false := decide_eq_false u1
      have v2 : decide (d3 > (n : Int)) = true := decide_eq_true (by omega)
      have v3 : decide ((n : Int) < d3) = true := decide_eq_true (by omega)
      clear t3' u1
      go_wp2_with fail
      go_ret
      exact ⟨by first | rfl | simp, N6.out⟩
  · obtain ⟨blk, off, rfl, hpz, hkz⟩ := (LV.out w6 N6.out).get k3
    have PZ := Lib.hid hpz
    have HN := HL.out
    have i1 : (0 : Int) ≤ (c' : Int) - 1 := by omega
    have i2 : (c' : Int) - 1 < (n : Int) := by omega
    have i3 : ((c' : Int) - 1).toNat = c' - 1 := by omega
    have i4 : IntKind.i64.wrap ((c' : Int) - 1) = (c' : Int) - 1 := IntWalk.i64_in _ (by omega)
    have i8 : (1 : Int) ≤ (c' : Int) := by omega
    have i9 : (c' : Int) ≤ (n : Int) := by omega
    have v1 : decide ((c' : Int) ≥ 1) = true := decide_eq_true (by omega)
    have v2 : decide ((c' : Int) ≤ (n : Int)) = true := decide_eq_true (by omega)
    have v3 : decide (1 ≤ c') = true := decide_eq_true (by omega)
    have v4 : decide (c' ≤ n) = true := decide_eq_true (by omega)
    have v5 : decide ((1 : Int) ≤ (c' : Int)) = true := decide_eq_true (by omega)
    have f2 := ba_eq' (rfl : R2 = R2)
    have D := Lib.hid (Has_any z R2 w6 hkz (FF.out z (List.mem_of_getElem? k3)).n1)
    rw [k4] at D
    unfold Pln.val at D
    have z0 := hpz.1; have z1 := hpz.2.1; have z2 := hpz.2.2.1; have z3 := hpz.2.2.2.1; have z4 := hpz.2.2.2.2
    have zb := hpz.lt
    clear T2 k3 k4 hpz hkz G1 G2 G3 HN
    go_wp2_with fail
    refine D.out.mono ?_
    rintro e w7 ⟨rfl, hb⟩
    have N7 := Lib.hid (N6.out.trans (hb.mono N6.out.size))
    clear hb
    go_wp2_with fail
    go_ret
    exact ⟨by first | rfl | simp, N7.out⟩

section
variable {H : Type} {enc : TypeId × Value → H} {P : Program} {w : World} {base : Nat} {spare : Nat → Bool} {held : Bool}
theorem trodAll_five {t t' t'' t3 t4 : TypeId} {args : Array Value} {ds : List (DataW H)} {ps : List MemPlace} (h : DataW.TrodAll enc P w base spare held [t, t', t'', t3, t4] args.toList ds ps) :
    ∃ v v' v'' v3 v4 d d' d'' d3 d4 p p' p'' p3 p4, args = #[v, v', v'', v3, v4] ∧ ds = [d, d', d'', d3, d4] ∧ ps = p ++ p' ++ p'' ++ p3 ++ p4 ∧ DataW.Trod enc P w base spare held t v d p ∧ DataW.Trod enc P w base spare held t' v' d' p' ∧ DataW.Trod enc P w base spare held t'' v'' d'' p'' ∧ DataW.Trod enc P w base spare held t3 v3 d3 p3 ∧ DataW.Trod enc P w base spare held t4 v4 d4 p4 := by
  obtain ⟨v, vs, d, ds', p, q, hargs, rfl, rfl, hd, hrest⟩ := trodAll_cons h
  obtain ⟨v', vs', d', ds'', p', q', rfl, rfl, rfl, hd', hrest'⟩ := trodAll_cons hrest
  obtain ⟨v'', vs'', d'', dsc, p'', q'', rfl, rfl, rfl, hd'', hrest''⟩ := trodAll_cons hrest'
  obtain ⟨v3, vs3, d3, ds3, p3, q3, rfl, rfl, rfl, hd3, hrest3⟩ := trodAll_cons hrest''
  obtain ⟨v4, vs4, d4, ds4, p4, q4, rfl, rfl, rfl, hd4, hrest4⟩ := trodAll_cons hrest3
  obtain ⟨rfl, rfl, rfl⟩ := trodAll_nil hrest4
  exact ⟨v, v', v'', v3, v4, d, d', d'', d3, d4, p, p', p'', p3, p4, by cases args; simp_all, rfl, by simp, hd, hd', hd'', hd3, hd4⟩
end

set_option maxRecDepth 100000 in
set_option maxHeartbeats 8000000 in
theorem through_lifted (os : Os) (started : os.Started) (H : Type) (enc : TypeId × Value → H) :
    ReturnsInHanded {} Tryd.checked os 3 .any (fun w args => (Rows.planThroughSpec.pre enc Tryd.prog Tryd.f3 [] false w args ∧ laidMetH Tryd.prog laid7 w) ∧ sizedMet enc Tryd.prog Tryd.f3 (OpenSpec.ofChange Rows.planThroughSpec) false w args)
      (Rows.planThroughSpec.post enc Tryd.prog Tryd.f3 false true false false) := by
  refine wrap (s := Rows.planThroughSpec) started (by kernel_rfl) Tryd.func3
    (ChangeSpec.witness_shaped (enc := enc) (C := Tryd.checked) (os := os) (X := fun w _ => laidMetH Tryd.prog laid7 w) false (World.laidAll Tryd.prog os laid7) #[.slice none 0 0, .int .i64 0, .int .i64 0, .int .i64 0, .string ⟨#[]⟩] 8 (World.laidAll_os _ _ _)
      (World.shaped_of_ZipB (by kernel_rfl) (by kernel_rfl)) (by kernel_rfl) (by kernel_rfl) (by kernel_rfl) (laid_met os _)) ?_
  intro W base args ds gs before hval0 hW hE
  have hval : ∀ (j : Nat) t v, Tryd.f3.params[j]? = some t → args[j]? = some v → Value.okWide Tryd.prog W .any base t v := hval0
  have hW' := hW
  obtain ⟨p, q, hA0, hV, rfl, hfz, hnd⟩ := hW
  have hA : DataW.TrodAll enc Tryd.prog W 0 (fun _ => true) true Tryd.f3.params.toList args.toList ds p := hA0
  rw [Tryd.params3] at hA hval
  obtain ⟨v0, v1, v2, v3, v4, d0, d1, d2, d3, d4, p0, p1, p2, p3, p4, rfl, rfl, rfl, h0, h1, h2, h3, h4⟩ := trodAll_five hA
  obtain ⟨rfl, rfl⟩ := trodVars_none hV
  obtain ⟨a0, c0, l0, rfl, g0, k0⟩ := open_plns (hval 0 22 v0 rfl rfl) h0
  obtain ⟨i1, rfl, rfl, rfl, w1⟩ := Go.ChangeShapes.open_int Tryd.underlying3 (hval 1 3 v1 rfl rfl) h1
  obtain ⟨i2, rfl, rfl, rfl, w2⟩ := Go.ChangeShapes.open_int Tryd.underlying3 (hval 2 3 v2 rfl rfl) h2
  obtain ⟨i3, rfl, rfl, rfl, w3⟩ := Go.ChangeShapes.open_int Tryd.underlying3 (hval 3 3 v3 rfl rfl) h3
  obtain ⟨s4, rfl, rfl, rfl, z4⟩ := Go.ChangeMaps.open_string Tryd.underlying9 (hval 4 9 v4 rfl rfl) h4
  refine (through_law a0 c0 l0 i1 i2 i3 s4 W hE g0 k0).mono fun e W' ⟨he, hb⟩ => ?_
  subst he
  exact ⟨_, rfl, post_true rfl rfl (by kernel_rfl) hW' rfl hb⟩

theorem through_said : Rows.PlanThroughSaid :=
  OpenClaim.holds_of_wide 3 Tryd.f3 rfl rfl rfl rfl rfl rfl rfl ⟨rfl, rfl, rfl, rfl, rfl⟩ rfl rfl rfl rfl rfl (by kernel_rfl) Tryd.func3 (by kernel_rfl)
    (of_decide_eq_true (by kernel_rfl)) (by unfold Func.isWrapper; first | (rw [if_pos (by decide +kernel)]; kernel_rfl) | (rw [if_neg (by decide +kernel)]; exact ⟨rfl, rfl⟩))
    (fun os started H enc _ => through_lifted os started H enc)

theorem through_holds : Rows.PlanThroughCardSaid :=
  Claim7.holds_tied_plain_at .later [] [.data, .data, .data, .data, .sentinel, .sentinel, .pinned] true (true, "805ade9bbbd6bcb5d3bddc9f22c36a90fc34085696a18601d0ecd13c85acafed") true
    through_said (fun _ h => by cases h) (by kernel_rfl) (fun _ h => by cases h) planThrough_row_tie rfl ⟨rfl, rfl⟩ (by kernel_rfl) rfl
    (fun f fn hf hfn => by
      obtain rfl : f = 3 := Option.some.inj ((show Tryd.prog.funcNamed "archivum/archivumlaw07.PlanThrough" = some 3 by kernel_rfl).symm.trans hf) |>.symm
      obtain rfl : fn = Tryd.f3 := (Option.some.inj (Tryd.func3.symm.trans hfn)).symm
      exact ⟨by kernel_rfl, fun j t ht => by
        rw [Tryd.params3] at ht
        have hm : t ∈ [22, 3, 3, 3, 9] := by simpa using Array.mem_of_getElem? ht
        have hall : ([22, 3, 3, 3, 9].all fun u => !Tryd.prog.wantsStandIn u) = true := by kernel_rfl
        exact (show Tryd.prog.wantsStandIn t = false by simpa using List.all_eq_true.1 hall t hm)⟩)
    (by kernel_rfl)
#print axioms through_holds

end Go.Proofs.YtjnlbjlejggngaaDoor
