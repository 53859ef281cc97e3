/-
  PROVED HERE: the law archivumlaw07.PlanTime answers true for every list of versions and two days. Condition: the listed variables hold what the program's text lays in them. Every input is spoken of.
-/
import Derived.Test.YtjnlbjlejggngaaDoorEy
import Derived.Test.YtjnlbjlejggngaaDoorKs
import Derived.Test.YtjnlbjlejggngaaDoorFe
import Derived.Test.YtjnlbjlejggngaaDoorMo
import Derived.BigQuiet
namespace Go.Proofs.YtjnlbjlejggngaaDoor
open Go Go.RowKit Go.ChangeShapes Go.WideShapes Go.ChangeAt Go.Joins

theorem later_from {l : List Pln} {I : Int} (h : ChkIs l I 0) : ∀ (i j : Nat) x y, j < i → l[i]? = some x → l[j]? = some y → y.u ≤ x.f := by
  intro i
  induction i with
  | zero => intro j x y hj; exact absurd hj (Nat.not_lt_zero _)
  | succ i ih =>
    intro j x y hj hx hy
    have hlt : i + 1 < l.length := (List.getElem?_eq_some_iff.1 hx).1
    obtain ⟨z, hz⟩ : ∃ z, l[i]? = some z := ⟨_, List.getElem?_eq_getElem (by omega)⟩
    have h1 := ((chk0 h (i + 1) x hx).2 z (by omega) hz).1
    rcases (show j < i ∨ j = i by omega) with g | g
    · have h2 := ih j z y g hz hy
      have h3 := (chk0 h i z hz).1
      omega
    · subst g
      obtain rfl : z = y := Option.some.inj (hz.symm.trans hy)
      omega
/-- What At answers, for versions in order. -/
theorem ix_is (l : List Pln) (d : Int) : (idxV (l.findIdx? (on d)) = -1 ∧ ∀ x ∈ l, ¬ (x.f ≤ d ∧ d < x.u)) ∨ ∃ (i : Nat) (x : Pln), idxV (l.findIdx? (on d)) = i ∧ l[i]? = some x ∧ x.f ≤ d ∧ d < x.u := by
  rcases first_pl (on d) l with ⟨h1, h2⟩ | ⟨m, x, h1, h2, h3, h4⟩
  · refine .inl ⟨by rw [h2]; rfl, fun x hx k => ?_⟩
    have := h1 x hx
    unfold on at this
    rw [decide_eq_true k] at this
    cases this
  · have h5 := of_decide_eq_true h2
    exact .inr ⟨m, x, by rw [h4]; rfl, h1, h5.1, h5.2⟩
/-- Days from the first version's to the last one's have a version. -/
theorem covered {l : List Pln} {I d : Int} (h : ChkIs l I 0) : ∀ (i : Nat) x z, l[0]? = some x → l[i]? = some z → x.f ≤ d → d < z.u → ∃ (j : Nat) (y : Pln), l[j]? = some y ∧ y.f ≤ d ∧ d < y.u := by
  intro i
  induction i with
  | zero =>
    intro x z hx hz h1 h2
    obtain rfl : x = z := Option.some.inj (hx.symm.trans hz)
    exact ⟨0, x, hx, h1, h2⟩
  | succ i ih =>
    intro x z hx hz h1 h2
    have hlt : i + 1 < l.length := (List.getElem?_eq_some_iff.1 hz).1
    obtain ⟨y, hy⟩ : ∃ y, l[i]? = some y := ⟨_, List.getElem?_eq_getElem (by omega)⟩
    have h3 := ((chk0 h (i + 1) z hz).2 y (by omega) hy).1
    by_cases g : d < y.u
    · exact ih x y hx hy h1 g
    · exact ⟨i + 1, z, hz, by omega, h2⟩
/-- The version of a day, and the span of all. -/
theorem tim {l : List Pln} {I a : Int} (h : ChkIs l I 0) {x z : Pln} (hx : l[0]? = some x) (hz : l[l.length - 1]? = some z) :
    (idxV (l.findIdx? (on a)) = -1 ∧ ¬ (x.f ≤ a ∧ a < z.u)) ∨ ∃ (i : Nat) (y : Pln), idxV (l.findIdx? (on a)) = i ∧ l[i]? = some y ∧ y.f ≤ a ∧ a < y.u ∧ x.f ≤ a ∧ a < z.u := by
  rcases ix_is l a with ⟨h1, h2⟩ | ⟨i, y, h1, h2, h3, h4⟩
  · refine .inl ⟨h1, fun ⟨k1, k2⟩ => ?_⟩
    obtain ⟨j, y, q1, q2, q3⟩ := covered h _ x z hx hz k1 k2
    exact h2 y (List.mem_of_getElem? q1) ⟨q2, q3⟩
  · refine .inr ⟨i, y, h1, h2, h3, h4, ?_, ?_⟩
    · rcases (show i = 0 ∨ 0 < i by omega) with g | g
      · subst g
        obtain rfl : x = y := Option.some.inj (hx.symm.trans h2)
        exact h3
      · have q1 := later_from h i 0 y x g h2 hx
        have q2 := (chk0 h 0 x hx).1
        omega
    · have hlt : i < l.length := (List.getElem?_eq_some_iff.1 h2).1
      rcases (show i = l.length - 1 ∨ i < l.length - 1 by omega) with g | g
      · subst g
        obtain rfl : y = z := Option.some.inj (h2.symm.trans hz)
        exact h4
      · have q1 := later_from h (l.length - 1) i z y g hz h2
        have q2 := (chk0 h (l.length - 1) z hz).1
        omega
theorem tim_le {l : List Pln} {I a b : Int} (h : ChkIs l I 0) (hab : a ≤ b) {i k : Nat} {y v : Pln} (h1 : l[i]? = some y) (h2 : y.f ≤ a) (_h3 : a < y.u) (h4 : l[k]? = some v) (_h5 : v.f ≤ b) (h6 : b < v.u) : i ≤ k := by
  rcases Nat.lt_or_ge k i with g | g
  · have := later_from h i k y v g h1 h4
    omega
  · exact g

set_option maxRecDepth 100000 in
set_option maxHeartbeats 8000000 in
theorem time_law (p : Option Addr) (c : Nat) (l : List Pln) (a b : Int) (w : World) (hE : Env w) (hL : PlnsAt w p l) (hc : l.length ≤ c) (hF : ∀ y ∈ l, Fit y) (hs : l.length * 72 ≤ 140737488355328) :
    Calls Tryd.prog 4 #[.slice p l.length c, .int .i64 a, .int .i64 b] w fun e w' => e = .returned (.bool true) ∧ Below w.heap.size w w' := by
  obtain ⟨n, hl⟩ : ∃ n, l.length = n := ⟨_, rfl⟩
  rw [hl] at hc hs ⊢
  have HL := Lib.hid hl
  have EV := Lib.hid (fun (v : World) (h : Below w.heap.size w v) => hE.below h)
  have LV := Lib.hid (fun (v : World) (h : Below w.heap.size w v) => hL.next h)
  have AW := Lib.hid (awakeP_true w hE)
  have FE := Lib.hid (fun v h => FewPlansE_any p n c l v (LV.out v h) hl)
  obtain ⟨I, E, hIE⟩ := chk_ex l
  have CH := Lib.hid hIE
  have FF := Lib.hid hF
  have C1 := Lib.hid (fun v h => Check_any p n c l v (EV.out v h) (LV.out v h) HL.out hc FF.out I E CH.out)
  have C2 := Lib.hid (fun (d : Int) v h => At_any p n c l d v (EV.out v h) (LV.out v h) HL.out hc FF.out I E CH.out (by omega))
  have hs' := Lib.hid hs
  clear hE hL hl hIE hF hs
  go_enter Tryd.func4, Tryd.ntmps4
  go_wp2_with fail
  refine AW.out.mono ?_
  rintro e w2 ⟨rfl, hb2⟩
  have N2 := Lib.hid hb2
  clear hb2 AW
  go_wp2_with fail
  refine (C1.out _ N2.out).mono ?_
  rintro e w3 ⟨rfl, hb⟩
  have N3 := Lib.hid (N2.out.trans (hb.mono N2.out.size))
  clear hb C1
  go_wp2_with fail
  refine (FE.out w3 N3.out).mono ?_
  rintro e w4 ⟨B, rfl, hB, hb⟩
  have N4 := Lib.hid (N3.out.trans (hb.mono N3.out.size))
  have HB := Lib.hid hB
  clear hb hB
  obtain ⟨X, hX⟩ : ∃ X, X = idxV (l.findIdx? (on a)) := ⟨_, rfl⟩
  obtain ⟨Y, hY⟩ : ∃ Y, Y = idxV (l.findIdx? (on b)) := ⟨_, rfl⟩
  have D1 := Lib.hid (C2.out a); have D2 := Lib.hid (C2.out b)
  rw [← hX] at D1
  rw [← hY] at D2
  have IXA0 := ix_is l a
  have IXB0 := ix_is l b
  rw [← hX] at IXA0
  rw [← hY] at IXB0
  have IXA := Lib.hid IXA0; have IXB := Lib.hid IXB0; have HX := Lib.hid hX
  clear C2 IXA0 IXB0 hX hY
  by_cases hz : E = 0
  case neg =>
    have d1 : (E != 0) = true := by simp [hz]
    rw [if_neg hz] at D1
    clear hz D2 FE
    cases B <;> {
      go_wp2_with fail
      refine (D1.out _ N4.out).mono ?_
      rintro e w5 ⟨rfl, hb⟩
      have N5 := Lib.hid (N4.out.trans (hb.mono N4.out.size))
      clear hb D1
      go_wp2_with fail
      go_ret
      exact ⟨by first | rfl | simp, N5.out⟩ }
  have d1 : (E != 0) = false := by simp [hz]
  rw [if_pos hz] at D1 D2
  subst hz
  cases B with
  | false =>
    clear D2
    by_cases g : X = -1
    · have f1 : (X == -1) = true := by rw [beq_iff_eq]; exact g
      clear g FE
      go_wp2_with fail
      refine (D1.out _ N4.out).mono ?_
      rintro e w5 ⟨rfl, hb⟩
      have N5 := Lib.hid (N4.out.trans (hb.mono N4.out.size))
      clear hb D1
      go_wp2_with fail
      go_ret
      exact ⟨by first | rfl | simp, N5.out⟩
    · have f1 : (X == -1) = false := by rw [beq_eq_false_iff_ne]; exact g
      have NF : Hid (¬ FewLE l) := fun k => by have := HB.out.2 k; cases this
      clear g
      go_wp2_with fail
      refine (D1.out _ N4.out).mono ?_
      rintro e w5 ⟨rfl, hb⟩
      have N5 := Lib.hid (N4.out.trans (hb.mono N4.out.size))
      clear hb D1
      go_wp2_with fail
      refine (FE.out w5 N5.out).mono ?_
      rintro e w6 ⟨B2, rfl, hB2, hb⟩
      have N6 := Lib.hid (N5.out.trans (hb.mono N5.out.size))
      have HB2 : Hid (B2 = false) := by
        show B2 = false
        cases B2 with
        | false => rfl
        | true => exact absurd (hB2.1 rfl) NF.out
      clear hb hB2 FE
      have q := HB2.out
      subst q
      clear HB2
      go_wp2_with fail
      go_ret
      exact ⟨by first | rfl | simp, N6.out⟩
  | true =>
  clear FE HB
  by_cases hn0 : n = 0
  · have hX1 : X = -1 := by
      rcases IXA.out with ⟨k, _⟩ | ⟨i, y, _, k, _⟩
      · exact k
      · have := (List.getElem?_eq_some_iff.1 k).1
        have := HL.out
        omega
    subst hX1
    have HN := Lib.hid hn0
    subst hn0
    clear IXA IXB HX
    go_wp2_with fail
    refine (D1.out _ N4.out).mono ?_
    rintro e w5 ⟨rfl, hb⟩
    have N5 := Lib.hid (N4.out.trans (hb.mono N4.out.size))
    clear hb D1
    go_wp2_with fail
    refine (D2.out _ N5.out).mono ?_
    rintro e w6 ⟨rfl, hb⟩
    have N6 := Lib.hid (N5.out.trans (hb.mono N5.out.size))
    clear hb D2
    have u1 : decide ((-1 : Int) ≥ 0) = false := by decide
    cases hab : decide (a ≤ b) with
    | false =>
      go_wp2_with fail
      try (go_quiet (fail))
      try (go_wp2_with fail)
      try (go_quiet (fail))
      try (go_wp2_with fail)
      go_ret
      exact ⟨by first | rfl | simp, by first | exact below_drewN (below_drewN N6.out _) _ | exact below_drewN N6.out _ | exact N6.out⟩
    | true =>
      go_wp2_with fail
      try (go_quiet (fail))
      try (go_wp2_with fail)
      try (go_quiet (fail))
      try (go_wp2_with fail)
      go_ret
      exact ⟨by first | rfl | simp, by first | exact below_drewN (below_drewN N6.out _) _ | exact below_drewN N6.out _ | exact N6.out⟩
  obtain ⟨x, hx⟩ : ∃ x, l[0]? = some x := ⟨_, List.getElem?_eq_getElem (by have := HL.out; omega)⟩
  obtain ⟨z, hzz⟩ : ∃ z, l[n - 1]? = some z := ⟨_, List.getElem?_eq_getElem (by have := HL.out; omega)⟩
  have TIM := tim (a := a) CH.out hx (by rw [HL.out]; exact hzz)
  rw [← HX.out] at TIM
  have TM := Lib.hid TIM
  clear TIM HX
  go_wp2_with fail
  refine (D1.out _ N4.out).mono ?_
  rintro e w5 ⟨rfl, hb⟩
  have N5 := Lib.hid (N4.out.trans (hb.mono N4.out.size))
  clear hb D1
  go_wp2_with fail
  refine (D2.out _ N5.out).mono ?_
  rintro e w6 ⟨rfl, hb⟩
  have N6 := Lib.hid (N5.out.trans (hb.mono N5.out.size))
  clear hb D2
  have L6 := Lib.hid (LV.out w6 N6.out)
  obtain ⟨blk, off, rfl, hpx, _⟩ := L6.out.get hx
  obtain ⟨blk2, off2, he, hpz, _⟩ := L6.out.get hzz
  obtain ⟨rfl, rfl⟩ : blk = blk2 ∧ off = off2 := by simpa using he
  have x1 := hpx.2.1
  simp only [Nat.zero_mul, Nat.add_zero] at x1
  have z2 := hpz.2.2.1
  have zb := hpx.lt
  have v0 : decide ((n : Int) > 0) = true := decide_eq_true (by omega)
  have v0' : decide (0 < n) = true := decide_eq_true (by omega)
  have v1 : (0 : Int) < (n : Int) := by omega
  have v1' : 0 < n := by omega
  have j1 : (0 : Int) ≤ (n : Int) - 1 := by omega
  have j2 : (n : Int) - 1 < (n : Int) := by omega
  have j3 : ((n : Int) - 1).toNat = n - 1 := by omega
  have j4 : IntKind.i64.wrap ((n : Int) - 1) = (n : Int) - 1 := IntWalk.i64_in _ (by have := hs'.out; omega)
  have j8 : (1 : Int) ≤ (n : Int) := by omega
  rcases TM.out with ⟨hX1, hno⟩ | ⟨i, y, hX1, hy, g1, g2, g3, g4⟩
  · subst hX1
    have u1 : decide ((-1 : Int) ≥ 0) = false := by decide
    have u2 : decide ((-1 : Int) ≥ (n : Int)) = false := decide_eq_false (by omega)
    have u3 : decide ((-1 : Int) < -1) = false := by decide
    by_cases c1 : x.f ≤ a
    · have e1 : decide (a ≥ x.f) = true := decide_eq_true c1
      have e2 : decide (a < z.u) = false := decide_eq_false (fun k => hno ⟨c1, k⟩)
      clear hno c1 IXA IXB TM hx hzz hpx hpz he hn0
      cases hab : decide (a ≤ b) <;> {
        go_wp2_with fail
        try (go_quiet (fail))
        try (go_wp2_with fail)
        try (go_quiet (fail))
        try (go_wp2_with fail)
        try (go_quiet (fail))
        try (go_wp2_with fail)
        go_ret
        exact ⟨by first | rfl | simp, by first | exact below_drewN (below_drewN (below_drewN N6.out _) _) _ | exact below_drewN (below_drewN N6.out _) _ | exact below_drewN N6.out _ | exact N6.out⟩
      }
    · have e1 : decide (a ≥ x.f) = false := decide_eq_false c1
      clear hno c1 IXA IXB TM hx hzz hpx hpz he hn0
      cases hab : decide (a ≤ b) <;> {
        go_wp2_with fail
        try (go_quiet (fail))
        try (go_wp2_with fail)
        try (go_quiet (fail))
        try (go_wp2_with fail)
        try (go_quiet (fail))
        try (go_wp2_with fail)
        go_ret
        exact ⟨by first | rfl | simp, by first | exact below_drewN (below_drewN (below_drewN N6.out _) _) _ | exact below_drewN (below_drewN N6.out _) _ | exact below_drewN N6.out _ | exact N6.out⟩
      }
  · subst hX1
    have hin : i < n := by have := (List.getElem?_eq_some_iff.1 hy).1; have := HL.out; omega
    obtain ⟨blk3, off3, he3, hpy, _⟩ := L6.out.get hy
    obtain ⟨rfl, rfl⟩ : blk = blk3 ∧ off = off3 := by simpa using he3
    have y1 := hpy.2.1; have y2 := hpy.2.2.1
    have e1 : decide (a ≥ x.f) = true := decide_eq_true g3
    have e2 : decide (a < z.u) = true := decide_eq_true g4
    have u1 : decide ((i : Int) ≥ 0) = true := decide_eq_true (by omega)
    have u2 : decide ((i : Int) ≥ (n : Int)) = false := decide_eq_false (by omega)
    have u2' : decide (n ≤ i) = false := decide_eq_false (by omega)
    have u3 : decide ((i : Int) < -1) = false := decide_eq_false (by omega)
    have u4 : (0 : Int) ≤ (i : Int) := by omega
    have u5 : (i : Int) < (n : Int) := by omega
    have e3 : decide (a < y.f) = false := decide_eq_false (by omega)
    have e4 : decide (a ≥ y.u) = false := decide_eq_false (by omega)
    have LE : Hid (a ≤ b → ∀ (k : Nat) v, l[k]? = some v → v.f ≤ b → b < v.u → i ≤ k) := fun hab k v k1 k2 k3 => tim_le CH.out hab hy g1 g2 k1 k2 k3
    have IB := Lib.hid IXB.out
    clear IXA IXB TM hx hzz hpx hpz hpy he he3 hn0 hy g1 g2 g3 g4
    by_cases hab : a ≤ b
    · have f1 : decide (a ≤ b) = true := decide_eq_true hab
      rcases IB.out with ⟨rfl, _⟩ | ⟨k, v, rfl, k1, k2, k3⟩
      · have f2 : decide ((-1 : Int) ≥ 0) = false := by decide
        clear hab
        go_wp2_with fail
        try (go_quiet (fail))
        try (go_wp2_with fail)
        try (go_quiet (fail))
        try (go_wp2_with fail)
        try (go_quiet (fail))
        try (go_wp2_with fail)
        go_ret
        exact ⟨by first | rfl | simp, by first | exact below_drewN (below_drewN (below_drewN N6.out _) _) _ | exact below_drewN (below_drewN N6.out _) _ | exact below_drewN N6.out _ | exact N6.out⟩
      · have q := LE.out hab k v k1 k2 k3
        have f2 : decide ((k : Int) ≥ 0) = true := decide_eq_true (by omega)
        have f3 : decide ((i : Int) ≤ (k : Int)) = true := decide_eq_true (by omega)
        have f4 : decide (i ≤ k) = true := decide_eq_true q
        clear hab q k1 k2 k3 IB
        go_wp2_with fail
        try (go_quiet (fail))
        try (go_wp2_with fail)
        try (go_quiet (fail))
        try (go_wp2_with fail)
        try (go_quiet (fail))
        try (go_wp2_with fail)
        go_ret
        exact ⟨by first | rfl | simp, by first | exact below_drewN (below_drewN (below_drewN N6.out _) _) _ | exact below_drewN (below_drewN N6.out _) _ | exact below_drewN N6.out _ | exact N6.out⟩
    · have f1 : decide (a ≤ b) = false := decide_eq_false hab
      clear hab
      go_wp2_with fail
      try (go_quiet (fail))
      try (go_wp2_with fail)
      try (go_quiet (fail))
      try (go_wp2_with fail)
      try (go_quiet (fail))
      try (go_wp2_with fail)
      go_ret
      exact ⟨by first | rfl | simp, by first | exact below_drewN (below_drewN (below_drewN N6.out _) _) _ | exact below_drewN (below_drewN N6.out _) _ | exact below_drewN N6.out _ | exact N6.out⟩

set_option maxRecDepth 100000 in
set_option maxHeartbeats 8000000 in
theorem time_lifted (os : Os) (started : os.Started) (H : Type) (enc : TypeId × Value → H) :
    ReturnsInHanded {} Tryd.checked os 4 .any (fun w args => (Rows.planTimeSpec.pre enc Tryd.prog Tryd.f4 [] false w args ∧ laidMetH Tryd.prog laid7 w) ∧ sizedMet enc Tryd.prog Tryd.f4 (OpenSpec.ofChange Rows.planTimeSpec) false w args)
      (Rows.planTimeSpec.post enc Tryd.prog Tryd.f4 false true false false) := by
  refine wrap_sized (s := Rows.planTimeSpec) started (by kernel_rfl) Tryd.func4
    (ChangeSpec.witness_shaped (enc := enc) (C := Tryd.checked) (os := os) (X := fun w _ => laidMetH Tryd.prog laid7 w) false (World.laidAll Tryd.prog os laid7) #[.slice none 0 0, .int .i64 0, .int .i64 0] 8 (World.laidAll_os _ _ _)
      (World.shaped_of_ZipB (by kernel_rfl) (by kernel_rfl)) (by kernel_rfl) (by kernel_rfl) (by kernel_rfl) (laid_met os _)) rfl ?_
  intro W base args ds gs before hval0 hW hSZ hE
  have hval : ∀ (j : Nat) t v, Tryd.f4.params[j]? = some t → args[j]? = some v → Value.okWide Tryd.prog W .any base t v := hval0
  have hW' := hW
  obtain ⟨p, q, hA0, hV, rfl, hfz, hnd⟩ := hW
  have hA : DataW.TrodAll enc Tryd.prog W 0 (fun _ => true) true Tryd.f4.params.toList args.toList ds p := hA0
  rw [Tryd.params4] at hA hval
  obtain ⟨v0, v1, v2, d0, d1, d2, p0, p1, p2, rfl, rfl, rfl, h0, h1, h2⟩ := trodAll_three hA
  obtain ⟨rfl, rfl⟩ := trodVars_none hV
  obtain ⟨a0, c0, l0, rfl, g0, k0, ft0, sl0⟩ := s_plns (hval 0 22 v0 rfl rfl) h0 (fun n hn => hSZ n (by rw [Tryd.params4]; exact List.mem_append_left _ hn))
  obtain ⟨i1, rfl, rfl, rfl, w1⟩ := Go.ChangeShapes.open_int Tryd.underlying3 (hval 1 3 v1 rfl rfl) h1
  obtain ⟨i2, rfl, rfl, rfl, w2⟩ := Go.ChangeShapes.open_int Tryd.underlying3 (hval 2 3 v2 rfl rfl) h2
  refine (time_law a0 c0 l0 i1 i2 W hE g0 k0 ft0 sl0).mono fun e W' ⟨he, hb⟩ => ?_
  subst he
  exact ⟨_, rfl, post_true rfl rfl (by kernel_rfl) hW' rfl hb⟩

theorem time_said : Rows.PlanTimeSaid :=
  OpenClaim.holds_of_wide 4 Tryd.f4 rfl rfl rfl rfl rfl rfl rfl ⟨rfl, rfl, rfl, rfl, rfl⟩ rfl rfl rfl rfl rfl (by kernel_rfl) Tryd.func4 (by kernel_rfl)
    (of_decide_eq_true (by kernel_rfl)) (by unfold Func.isWrapper; first | (rw [if_pos (by decide +kernel)]; kernel_rfl) | (rw [if_neg (by decide +kernel)]; exact ⟨rfl, rfl⟩))
    (fun os started H enc _ => time_lifted os started H enc)

theorem time_holds : Rows.PlanTimeCardSaid :=
  Claim7.holds_tied_plain_at .later [] [.data, .data, .data, .data, .sentinel, .sentinel, .pinned] true (true, "805ade9bbbd6bcb5d3bddc9f22c36a90fc34085696a18601d0ecd13c85acafed") true
    time_said (fun _ h => by cases h) (by kernel_rfl) (fun _ h => by cases h) planTime_row_tie rfl ⟨rfl, rfl⟩ (by kernel_rfl) rfl
    (fun f fn hf hfn => by
      obtain rfl : f = 4 := Option.some.inj ((show Tryd.prog.funcNamed "archivum/archivumlaw07.PlanTime" = some 4 by kernel_rfl).symm.trans hf) |>.symm
      obtain rfl : fn = Tryd.f4 := (Option.some.inj (Tryd.func4.symm.trans hfn)).symm
      exact ⟨by kernel_rfl, fun j t ht => by
        rw [Tryd.params4] at ht
        have hm : t ∈ [22, 3, 3] := by simpa using Array.mem_of_getElem? ht
        have hall : ([22, 3, 3].all fun u => !Tryd.prog.wantsStandIn u) = true := by kernel_rfl
        exact (show Tryd.prog.wantsStandIn t = false by simpa using List.all_eq_true.1 hall t hm)⟩)
    (by kernel_rfl)
#print axioms time_holds

end Go.Proofs.YtjnlbjlejggngaaDoor
