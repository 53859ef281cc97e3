/-
  PROVED HERE: the law archivumlaw03.DatingYears answers true for every dating and numbers: so many years behind a day of a dating are in the dating of the years, and its ends are reached. Condition: the package variable archivum/day.lengths holds what the program's text lays in it (the card ties that). Every input is spoken of.
-/
import Derived.Test.YtjpiaccpcmlfnaaDoorSound
namespace Go.Proofs.YtjpiaccpcmlfnaaDoor
open Go.ChangeShapes Go.WideShapes Go.ChangeAt Go.RowKit Go.Joins Cal

theorem yrV_mono {a b y m d y' m' d' k : Int} (h : IsDate a y m d) (h' : IsDate b y' m' d') (hab : a ≤ b) : yrV y m d k ≤ yrV y' m' d' k := last_mono (later_mono h h' hab)

theorem years_mod (n : Int) (h0 : 0 ≤ n) (h1 : n ≤ 255) : 0 ≤ n % 201 ∧ n % 201 ≤ 200 := by omega

set_option maxRecDepth 100000 in
set_option maxHeartbeats 8000000 in
theorem years_bad (a b x n k : Int) (w : World) (hT : Table w) (h : ¬ okD a b) (hk : n % 201 = k) (h0 : 0 ≤ n) (h1 : n ≤ 255) :
    Calls Tryd.prog 8 #[.agg #[.int .i64 a, .int .i64 b], .int .u32 x, .int .u8 n] w fun e w' => e = .returned (.bool true) ∧ Below w.heap.size w w' := by
  have HT := Lib.hid hT
  have hlt := hT.lt
  have C : Hid (∀ w, Calls Tryd.prog 18 #[.agg #[.int .i64 a, .int .i64 b], .int .i64 k] w fun e w' => e = .returned (.tuple #[.agg #[.int .i64 0, .int .i64 0], .int .i64 1]) ∧ Below w.heap.size w w') := fun w => Years_bad a b k w h
  have HK := Lib.hid hk
  have e : (chk a b != 0) = true := by rw [chk_no h]; rfl
  clear hT h hk
  go_enter Tryd.func8, Tryd.ntmps8
  go_wp2_with fail
  refine (awake_true _ (HT.out.below (by go_grown))).mono ?_
  rintro e w1 ⟨rfl, hb⟩
  have B1 : Hid (Below w.heap.size w w1) := Below.trans (b := w.alloc (.cells #[.int .i64 a, .int .i64 b] 23)) (by go_grown) (hb.mono (by simp))
  have X1 := Lib.hid ((Box.new w a b).next hb)
  clear hb
  have a0 := X1.out.c0; have a1 := X1.out.c1
  go_wp2_with fail
  rw [HK.out]
  refine (C.out _).mono ?_
  rintro e v1 ⟨rfl, hb0⟩
  have hz := hb0.size
  have B2 : Hid (Below w.heap.size w v1) := B1.out.trans (hb0.mono B1.out.size)
  have X2 := Lib.hid (X1.out.next hb0)
  have z2 := X2.out.lt
  clear hb0 a0 a1
  have a0 := X2.out.c0; have a1 := X2.out.c1
  go_wp2_with fail
  refine (Check_any _ _ _).mono ?_
  rintro e w3 ⟨rfl, hb⟩
  have B3 := Lib.hid ((B2.out.alloc (by omega) (.cells #[.int .i64 0, .int .i64 0] 23)).trans (hb.mono (by simp; omega))); have W3 := Lib.hid ((Box.new v1 0 0).next hb)
  clear hb a0 a1
  have d0 := W3.out.c0; have d1 := W3.out.c1
  go_wp2
  go_ret
  exact ⟨rfl, B3.out⟩

set_option maxRecDepth 100000 in
set_option maxHeartbeats 8000000 in
theorem years_good (a b c x n k A B C : Int) (w : World) (hT : Table w) (h : okD a b) (h0 : 0 ≤ n) (h1 : n ≤ 255) (hk : n % 201 = k) (hx0 : 0 ≤ x) (hx1 : x ≤ 4294967295) (hc : a + x % (b - a + 1) = c) (k0 : A ≤ C) (k1 : C ≤ B)
    (CY : ∀ w, Table w → Calls Tryd.prog 18 #[.agg #[.int .i64 a, .int .i64 b], .int .i64 k] w fun e w' => e = .returned (.tuple #[.agg #[.int .i64 A, .int .i64 B], .int .i64 0]) ∧ Below w.heap.size w w')
    (CA : ∀ w, Table w → Calls Tryd.prog 28 #[.int .i64 a, .int .i64 k] w fun e w' => e = .returned (.tuple #[.int .i64 A, .int .i64 0]) ∧ w = w')
    (CB : ∀ w, Table w → Calls Tryd.prog 28 #[.int .i64 b, .int .i64 k] w fun e w' => e = .returned (.tuple #[.int .i64 B, .int .i64 0]) ∧ w = w')
    (CC : ∀ w, Table w → Calls Tryd.prog 28 #[.int .i64 c, .int .i64 k] w fun e w' => e = .returned (.tuple #[.int .i64 C, .int .i64 0]) ∧ w = w') :
    Calls Tryd.prog 8 #[.agg #[.int .i64 a, .int .i64 b], .int .u32 x, .int .u8 n] w fun e w' => e = .returned (.bool true) ∧ Below w.heap.size w w' := by
  have HT := Lib.hid hT
  have hlt := hT.lt
  have DY := Lib.hid CY; have DA := Lib.hid CA; have DB := Lib.hid CB; have DC := Lib.hid CC
  have e : (chk a b != 0) = false := by rw [chk_yes h]; rfl
  have r1 := rem_bd x (b - a + 1) (by omega)
  have n1 : ((b - a + 1) == 0) = false := bool_ne (by omega)
  obtain ⟨g1, g2, g3⟩ := h
  have HK := Lib.hid hk
  have HC := Lib.hid hc
  clear hT CY CA CB CC hk hc
  go_enter Tryd.func8, Tryd.ntmps8
  go_wp2_with fail
  refine (awake_true _ (HT.out.below (by go_grown))).mono ?_
  rintro e w1 ⟨rfl, hb⟩
  have B1 : Hid (Below w.heap.size w w1) := Below.trans (b := w.alloc (.cells #[.int .i64 a, .int .i64 b] 23)) (by go_grown) (hb.mono (by simp))
  have X1 := Lib.hid ((Box.new w a b).next hb)
  clear hb
  have a0 := X1.out.c0; have a1 := X1.out.c1
  go_wp2_with fail
  rw [HK.out]
  refine (DY.out _ (HT.out.below B1.out)).mono ?_
  rintro e v1 ⟨rfl, hb0⟩
  have hz := hb0.size
  obtain ⟨w2, hw2⟩ : ∃ V : World, v1.alloc (.cells #[.int .i64 A, .int .i64 B] 23) = V := ⟨_, rfl⟩
  have hb : Below w1.heap.size w1 w2 := by rw [← hw2]; exact hb0.alloc hz _
  have W2 : Hid (Box w2 v1.heap.size A B) := by rw [← hw2]; exact Box.new v1 A B
  have B2 := Lib.hid (B1.out.trans (hb.mono B1.out.size)); have X2 := Lib.hid (X1.out.next hb)
  clear hb hb0 a0 a1 hz
  have a0 := X2.out.c0; have a1 := X2.out.c1
  go_wp2_with fail
  try rw [hw2]
  refine (Check_any _ _ _).mono ?_
  rintro e w3 ⟨rfl, hb⟩
  have B3 := Lib.hid (B2.out.trans (hb.mono B2.out.size)); have W3 := Lib.hid (W2.out.next hb); have X3 := Lib.hid (X2.out.next hb)
  clear hb a0 a1 hw2
  have a0 := X3.out.c0; have a1 := X3.out.c1
  go_wp2_with fail
  go_quiet ((go_at_call 28; refine Calls.quiet_of_same (v := .tuple #[.int .i64 C, .int .i64 0]) ?_; rw [HC.out]; refine (DC.out _ ?_).mono ?_; exact HT.out.below (below_drewN B3.out _); rintro e w' ⟨rfl, rfl⟩; exact ⟨rfl, rfl⟩))
  have B4 := Lib.hid (below_drewN B3.out nq); have X4 := Lib.hid (X3.out.drewN nq); have W4 := Lib.hid (W3.out.drewN nq)
  obtain ⟨w4, hw4⟩ : ∃ V, V = w3.drewN nq := ⟨_, rfl⟩
  rw [← hw4] at B4 X4 W4 ⊢
  clear a0 a1 hw4 nq
  have a0 := X4.out.c0; have a1 := X4.out.c1; have d0 := W4.out.c0; have d1 := W4.out.c1
  have T4 := Lib.hid (HT.out.below B4.out)
  go_wp2_with fail
  refine (DA.out _ T4.out).mono ?_
  rintro e w' ⟨rfl, rfl⟩
  go_wp2_with fail
  refine (DB.out _ T4.out).mono ?_
  rintro e w' ⟨rfl, rfl⟩
  go_wp2
  all_goals
    go_ret
    exact ⟨rfl, B4.out⟩

theorem years_any (a b x n : Int) (w : World) (hT : Table w) (hx0 : 0 ≤ x) (hx1 : x ≤ 4294967295) (h0 : 0 ≤ n) (h1 : n ≤ 255) :
    Calls Tryd.prog 8 #[.agg #[.int .i64 a, .int .i64 b], .int .u32 x, .int .u8 n] w fun e w' => e = .returned (.bool true) ∧ Below w.heap.size w w' := by
  obtain ⟨k, hk⟩ : ∃ k, n % 201 = k := ⟨_, rfl⟩
  have hkb : 0 ≤ k ∧ k ≤ 200 := by omega
  by_cases h : okD a b
  case neg => exact years_bad a b x n k w hT h hk h0 h1
  have r1 := rem_bd x (b - a + 1) (by omega)
  obtain ⟨c, hc⟩ : ∃ c, a + x % (b - a + 1) = c := ⟨_, rfl⟩
  have hcb : a ≤ c ∧ c ≤ b := by omega
  obtain ⟨y, m, d, hA⟩ := date_exists a (by omega) (by omega)
  obtain ⟨y', m', d', hB⟩ := date_exists b (by omega) (by omega)
  obtain ⟨y2, m2, d2, hC⟩ := date_exists c (by omega) (by omega)
  exact years_good a b c x n k _ _ _ w hT h h0 h1 hk hx0 hx1 hc (yrV_mono (k := k) hA hC hcb.1) (yrV_mono (k := k) hC hB hcb.2)
    (fun w hT => Years_good a b k y m d y' m' d' w hT h hkb.1 hkb.2 hA hB)
    (fun w hT => Years_is a k y m d w hT (by omega) (by omega) hA hkb.1 hkb.2)
    (fun w hT => Years_is b k y' m' d' w hT (by omega) (by omega) hB hkb.1 hkb.2)
    (fun w hT => Years_is c k y2 m2 d2 w hT (by omega) (by omega) hC hkb.1 hkb.2)

set_option maxRecDepth 100000 in
theorem years_lifted (os : Os) (started : os.Started) (H : Type) (enc : TypeId × Value → H) :
    ReturnsInHanded {} Tryd.checked os 8 .any (fun w args => (Rows.datingYearsSpec.pre enc Tryd.prog Tryd.f8 [] false w args ∧ laidMetH Tryd.prog laid1 w) ∧ sizedMet enc Tryd.prog Tryd.f8 (OpenSpec.ofChange Rows.datingYearsSpec) false w args)
      (Rows.datingYearsSpec.post enc Tryd.prog Tryd.f8 false true false false) := by
  refine returnsInHanded_of_change_and (C := Tryd.checked) (X := fun w _ => laidMetH Tryd.prog laid1 w) (fun _ _ _ hh h => h.of_heap hh) own started (by kernel_rfl) Tryd.func8
    (ChangeSpec.witness_shaped (enc := enc) (C := Tryd.checked) (os := os) (X := fun w _ => laidMetH Tryd.prog laid1 w) false (World.doorLaid Tryd.prog 400 os) #[.agg #[.int .i64 0, .int .i64 0], .int .u32 0, .int .u8 0] 8 rfl (World.shaped_of_RefB (by kernel_rfl) (by kernel_rfl)) (by kernel_rfl) (by kernel_rfl) (by kernel_rfl) (door_met os _)) ?_
  intro W base args ds gs before hval0 hW _ _ hL _
  have hval : ∀ (j : Nat) t v, Tryd.f8.params[j]? = some t → args[j]? = some v → Value.okWide Tryd.prog W .any base t v := hval0
  have hW' := hW
  obtain ⟨p, q, hA0, hV, rfl, hfz, hnd⟩ := hW
  have hA : DataW.TrodAll enc Tryd.prog W 0 (fun _ => true) true Tryd.f8.params.toList args.toList ds p := hA0
  rw [Tryd.params8] at hA hval
  obtain ⟨v0, v1, v2, d0, d1, d2, p0, p1, p2, rfl, rfl, rfl, h0, h1, h2⟩ := trodAll_three hA
  obtain ⟨rfl, rfl⟩ := trodVars_none hV
  obtain ⟨a0, b0, rfl⟩ := open_dat (hval 0 23 v0 rfl rfl) h0
  obtain ⟨x1, rfl, rfl, rfl, wx1⟩ := open_int Tryd.underlying41 (hval 1 41 v1 rfl rfl) h1
  have bx1 := wx1; simp only [Lit.wf, Bool.and_eq_true, decide_eq_true_eq] at bx1
  obtain ⟨x2, rfl, rfl, rfl, wx2⟩ := open_int Tryd.underlying5 (hval 2 5 v2 rfl rfl) h2
  have bx2 := wx2; simp only [Lit.wf, Bool.and_eq_true, decide_eq_true_eq] at bx2
  refine (years_any a0 b0 x1 x2 W (table_of_laid hL) bx1.1 bx1.2 bx2.1 bx2.2).mono fun e W' ⟨he, hb⟩ => ?_
  subst he
  exact ⟨_, rfl, post_true rfl rfl (by kernel_rfl) hW' rfl hb⟩

theorem years_said : Rows.DatingYearsSaid :=
  OpenClaim.holds_of_wide 8 Tryd.f8 rfl rfl rfl rfl rfl rfl rfl ⟨rfl, rfl, rfl, rfl, rfl⟩ rfl rfl rfl rfl rfl (by kernel_rfl) Tryd.func8 (by kernel_rfl)
    (of_decide_eq_true (by kernel_rfl)) (by unfold Func.isWrapper; first | (rw [if_pos (by decide +kernel)]; kernel_rfl) | (rw [if_neg (by decide +kernel)]; exact ⟨rfl, rfl⟩))
    (fun os started H enc _ => years_lifted os started H enc)

theorem years_holds : Rows.DatingYearsCardSaid :=
  Claim7.holds_tied_plain_at .later [] [.data] true (true, "8d303af702edcfadd9ccb66646380e9714c2ac817b63d28ef925ba83bf977c3d") false
    years_said (fun _ h => by cases h) (by kernel_rfl) (fun _ h => by cases h) datingYears_row_tie rfl ⟨rfl, rfl⟩ (by kernel_rfl) rfl
    (fun f fn hf hfn => by
      obtain rfl : f = 8 := Option.some.inj ((show Tryd.prog.funcNamed "archivum/archivumlaw03.DatingYears" = some 8 by kernel_rfl).symm.trans hf) |>.symm
      obtain rfl : fn = Tryd.f8 := (Option.some.inj (Tryd.func8.symm.trans hfn)).symm
      exact ⟨by kernel_rfl, fun j t ht => by
        rw [Tryd.params8] at ht
        have hm : t ∈ [23, 41, 5] := by simpa using Array.mem_of_getElem? ht
        have hall : ([23, 41, 5].all fun u => !Tryd.prog.wantsStandIn u) = true := by kernel_rfl
        exact (show Tryd.prog.wantsStandIn t = false by simpa using List.all_eq_true.1 hall t hm)⟩)
    (by kernel_rfl)
#print axioms years_holds
end Go.Proofs.YtjpiaccpcmlfnaaDoor
