/-
  PROVED HERE: the law archivumlaw04.TimelineTwice answers true for every list of pieces, span and values: a span that is set twice has the second value, as if it were set once; a span that is set and cleared is as if it were cleared. No condition. Every input is spoken of.
-/
import Derived.Test.YtcgjhbjbfdbfaaaKp
import Derived.Test.YtcgjhbjbfdbfaaaSa
namespace Go.Proofs.Ytcgjhbjbfdbfaaa
open Go.ChangeShapes Go.WideShapes Go.ChangeAt Go.RowKit Go.Joins

theorem dys_ge {F U V : Nat → Int} {v : Int} {m : Nat} : ∀ n : Nat, (∀ i, i < n → spn (F i) (U i)) → m < n → V m = v → U m - F m ≤ dys F U V v n := by
  intro n
  induction n with
  | zero => intro _ h; omega
  | succ n ih =>
    intro h hm hv
    show _ ≤ dys F U V v n + (if V n = v then U n - F n else 0)
    have g := h n (by omega)
    rcases (show m < n ∨ m = n by omega) with k | k
    · have := ih (fun i hi => h i (by omega)) k hv
      split <;> omega
    · subst k
      rw [if_pos hv]
      have := (dys_bd (V := V) (v := v) m (fun i hi => h i (by omega))).1
      omega

set_option maxRecDepth 100000 in
set_option maxHeartbeats 4000000 in
theorem twice_large (p : Option Addr) (n cap : Nat) (a b u v : Int) (w : World) (hn : 40 < n) :
    Calls Try.prog 7 #[.slice p n cap, .agg #[.int .i64 a, .int .i64 b], .int .i64 u, .int .i64 v] w fun e w' => e = .returned (.bool true) ∧ Below w.heap.size w w' := by
  have hk : (40 : Int) < (n : Int) := by omega
  go_enter Try.func7, Try.ntmps7
  go_wp2_with fail
  refine (awake_true _).mono ?_
  rintro e1 w1 ⟨rfl, hb⟩
  have B1 : Hid (Below w.heap.size w w1) := ((Below.refl _ _).alloc (Nat.le_refl _) _).trans (hb.mono (by simp))
  clear hb
  go_wp2_with fail
  go_ret
  exact ⟨rfl, B1.out⟩

set_option maxRecDepth 100000 in
set_option maxHeartbeats 4000000 in
theorem twice_bad (p : Option Addr) (n cap : Nat) (F U V : Nat → Int) (a b u v E X : Int) (w : World) (hP : PcsAt w p n F U V) (hn : n ≤ 40) (hX : X = badE E a b) (h0 : X ≠ 0) (C : ChecksTo 16 p n cap F U V E) :
    Calls Try.prog 7 #[.slice p n cap, .agg #[.int .i64 a, .int .i64 b], .int .i64 u, .int .i64 v] w fun e w' => e = .returned (.bool true) ∧ Below w.heap.size w w' := by
  have hk : (n : Int) ≤ 40 := by omega
  have P0 := Lib.hid (hP.below ((Below.refl _ _).alloc (Nat.le_refl _) (.cells #[.int .i64 a, .int .i64 b] 33)))
  have hx : (X != 0) = true := by simpa using h0
  have C1 : Hid (∀ w, PcsAt w p n F U V → Calls Try.prog 20 #[.slice p n cap, .agg #[.int .i64 a, .int .i64 b], .int .i64 u] w fun e w' => e = .returned (.tuple #[.slice none 0 0, .int .i64 X]) ∧ Below w.heap.size w w') := fun w h => Set_bad p n cap F U V a b E X u w h hX h0 C
  have S0 : Hid (SpanAt (w.alloc (.cells #[.int .i64 a, .int .i64 b] 33)) w.heap.size a b) := ⟨World.cell?_alloc_new w _ 33 0, World.cell?_alloc_new w _ 33 1⟩
  clear hX h0 C hP
  go_enter Try.func7, Try.ntmps7
  go_wp2_with fail
  refine (awake_true _).mono ?_
  rintro e1 w1 ⟨rfl, hb⟩
  have P1 := Lib.hid (P0.out.below hb); have S1 := Lib.hid (S0.out.below hb S0.out.lt)
  have B1 : Hid (Below w.heap.size w w1) := ((Below.refl _ _).alloc (Nat.le_refl _) _).trans (hb.mono (by simp))
  have s0 := S1.out.1; have s1 := S1.out.2
  clear hb
  go_wp2_with fail
  refine (C1.out _ P1.out).mono ?_
  rintro e1 w2 ⟨rfl, hb⟩
  have B2 := Lib.hid (B1.out.trans (hb.mono B1.out.size))
  clear hb s0 s1 P1 B1
  go_wp2_with fail
  go_ret
  exact ⟨rfl, B2.out⟩

set_option maxRecDepth 100000 in
set_option maxHeartbeats 8000000 in
theorem twice_ok (p : Option Addr) (n cap : Nat) (F U V : Nat → Int) (a b u v : Int) (w : World) (hP : PcsAt w p n F U V) (hn : n ≤ 40) (hT : Tl n F U V) (hs : spn a b) (C : ChecksTo 16 p n cap F U V 0) :
    Calls Try.prog 7 #[.slice p n cap, .agg #[.int .i64 a, .int .i64 b], .int .i64 u, .int .i64 v] w fun e w' => e = .returned (.bool true) ∧ Below w.heap.size w w' := by
  have hk : (n : Int) ≤ 40 := by omega
  have P0 := Lib.hid (hP.below ((Below.refl _ _).alloc (Nat.le_refl _) (.cells #[.int .i64 a, .int .i64 b] 33)))
  have T := Lib.hid hT; have HS := Lib.hid hs; have D := Lib.hid C
  have S0 : Hid (SpanAt (w.alloc (.cells #[.int .i64 a, .int .i64 b] 33)) w.heap.size a b) := ⟨World.cell?_alloc_new w _ 33 0, World.cell?_alloc_new w _ 33 1⟩
  have B0 : Hid (Below w.heap.size w (w.alloc (.cells #[.int .i64 a, .int .i64 b] 33))) := (Below.refl _ _).alloc (Nat.le_refl _) _
  clear hP hT hs C
  go_enter Try.func7, Try.ntmps7
  go_wp2_with fail
  refine (awake_true _).mono ?_
  rintro e1 w1 ⟨rfl, hb⟩
  have P1 := Lib.hid (P0.out.below hb)
  have S1 := Lib.hid (S0.out.below hb S0.out.lt)
  have B1 := Lib.hid (B0.out.trans (hb.mono B0.out.size))
  clear hb P0 S0 B0
  have s0 := S1.out.1; have s1 := S1.out.2
  go_wp2_with fail
  refine (Set_ok p n cap F U V a b u _ P1.out (by omega) T.out HS.out D.out).mono ?_
  rintro e1 w2 ⟨p2, n2, cap2, F2, U2, V2, rfl, hL, hb, hS⟩
  have P2 := Lib.hid (P1.out.below hb)
  have S2 := Lib.hid (S1.out.below hb S1.out.lt)
  have B2 := Lib.hid (B1.out.trans (hb.mono B1.out.size))
  have L2 := Lib.hid hL.pcs; have Q2 := Lib.hid hS
  clear hL hS s0 s1
  have s0 := S2.out.1; have s1 := S2.out.2
  clear hb P1 S1 B1
  have hn2 : n2 ≤ 43 := by have := Q2.out.2.1; omega
  have D2 := Lib.hid (checks_ok p2 n2 cap2 F2 U2 V2 (by omega) Q2.out.1)
  go_wp2_with fail
  refine (Set_ok p2 n2 cap2 F2 U2 V2 a b v _ L2.out (by omega) Q2.out.1 HS.out D2.out).mono ?_
  rintro e1 w3 ⟨p3, n3, cap3, F3, U3, V3, rfl, hM, hb, hC⟩
  have P3 := Lib.hid (P2.out.below hb)
  have S3 := Lib.hid (S2.out.below hb S2.out.lt)
  have B3 := Lib.hid (B2.out.trans (hb.mono B2.out.size))
  have L3 := Lib.hid (L2.out.below hb); have M3 := Lib.hid hM.pcs; have Q3 := Lib.hid hC
  clear hM hC L2 s0 s1
  have s0 := S3.out.1; have s1 := S3.out.2
  clear hb P2 S2 B2
  have hn3 : n3 ≤ 46 := by have := Q3.out.2.1; omega
  go_wp2_with fail
  refine (Set_ok p n cap F U V a b v _ P3.out (by omega) T.out HS.out D.out).mono ?_
  rintro e1 w4 ⟨p4, n4, cap4, F4, U4, V4, rfl, hN, hb, hC⟩
  have P4 := Lib.hid (P3.out.below hb)
  have S4 := Lib.hid (S3.out.below hb S3.out.lt)
  have B4 := Lib.hid (B3.out.trans (hb.mono B3.out.size))
  have L4 := Lib.hid (L3.out.below hb); have M4 := Lib.hid (M3.out.below hb); have N4 := Lib.hid hN.pcs; have Q4 := Lib.hid hC
  clear hN hC L3 M3 s0 s1
  have s0 := S4.out.1; have s1 := S4.out.2
  clear hb P3 S3 B3
  go_wp2_with fail
  refine (Clear_ok p2 n2 cap2 F2 U2 V2 a b _ L4.out (by omega) Q2.out.1 HS.out D2.out).mono ?_
  rintro e1 w5 ⟨p5, n5, cap5, F5, U5, V5, rfl, hO, hb, hC⟩
  have P5 := Lib.hid (P4.out.below hb)
  have S5 := Lib.hid (S4.out.below hb S4.out.lt)
  have B5 := Lib.hid (B4.out.trans (hb.mono B4.out.size))
  have M5 := Lib.hid (M4.out.below hb); have N5 := Lib.hid (N4.out.below hb); have O5 := Lib.hid hO.pcs; have Q5 := Lib.hid hC
  clear hO hC L4 M4 N4 s0 s1
  have s0 := S5.out.1; have s1 := S5.out.2
  clear hb P4 S4 B4
  go_wp2_with fail
  refine (Clear_ok p n cap F U V a b _ P5.out (by omega) T.out HS.out D.out).mono ?_
  rintro e1 w6 ⟨p6, n6, cap6, F6, U6, V6, rfl, hO, hb, hC⟩
  have S6 := Lib.hid (S5.out.below hb S5.out.lt)
  have B6 := Lib.hid (B5.out.trans (hb.mono B5.out.size))
  have M6 := Lib.hid (M5.out.below hb); have N6 := Lib.hid (N5.out.below hb); have O6 := Lib.hid (O5.out.below hb); have R6 := Lib.hid hO.pcs; have Q6 := Lib.hid hC
  clear hO hC M5 N5 O5 s0 s1
  have s0 := S6.out.1; have s1 := S6.out.2
  clear hb S5 B5
  obtain ⟨e1, E1⟩ := SetOf.unique (fun d x h => Q2.out.other d x h) Q3.out Q4.out
  obtain ⟨e2, E2⟩ := ClearOf.unique (fun d x h => Q2.out.other d x h) Q5.out Q6.out
  subst e1; subst e2
  have HE1 := Lib.hid E1; have HE2 := Lib.hid E2
  have CS1 : Hid (∀ w', PcsAt w' p3 n3 F3 U3 V3 → PcsAt w' p4 n3 F4 U4 V4 → Calls Try.prog 24 #[.slice p3 n3 cap3, .slice p4 n3 cap4] w' fun e w'' => e = .returned (.bool true) ∧ Below w'.heap.size w' w'') := fun w' h1 h2 => Same_eq _ _ n3 cap3 cap4 _ _ _ _ _ _ w' h1 h2 (by omega) HE1.out
  have hn5 : n5 ≤ 45 := by have := Q5.out.2.1; omega
  have CS2 : Hid (∀ w', PcsAt w' p5 n5 F5 U5 V5 → PcsAt w' p6 n5 F6 U6 V6 → Calls Try.prog 24 #[.slice p5 n5 cap5, .slice p6 n5 cap6] w' fun e w'' => e = .returned (.bool true) ∧ Below w'.heap.size w' w'') := fun w' h1 h2 => Same_eq _ _ n5 cap5 cap6 _ _ _ _ _ _ w' h1 h2 (by omega) HE2.out
  have hdy : b - a ≤ dys F3 U3 V3 v n3 := by
    obtain ⟨m, m1, m2, m3, m4⟩ := Q3.out.piece HS.out.2.1
    have := dys_ge n3 Q3.out.1.1.1 m1 m4
    omega
  have CD : Hid (∀ w', PcsAt w' p3 n3 F3 U3 V3 → Calls Try.prog 18 #[.slice p3 n3 cap3, .int .i64 v] w' fun e w'' => e = .returned (.int .i64 (dys F3 U3 V3 v n3)) ∧ Below w'.heap.size w' w'') := fun w' h =>
    Days_loop _ n3 cap3 _ _ _ v w' h (ordP_iff.2 ⟨by omega, Q3.out.1⟩) (checks_ok _ _ _ _ _ _ (by omega) Q3.out.1)
  obtain ⟨DY, hDY⟩ : ∃ x, x = dys F3 U3 V3 v n3 := ⟨_, rfl⟩
  rw [← hDY] at CD hdy
  have hsb := HS.out
  have hw9 : IntKind.i64.wrap (b - a) = b - a := IntWalk.i64_in _ (by omega)
  have hge : decide (b - a ≤ DY) = true := decide_eq_true hdy
  clear E1 E2 hDY s0 s1
  have s0 := S6.out.1; have s1 := S6.out.2
  go_wp2_with fail
  go_region_held3 (fun x => x.cell? ⟨w.heap.size, 0, none⟩ = some (.int .i64 a) ∧ x.cell? ⟨w.heap.size, 1, none⟩ = some (.int .i64 b)) (first | exact S6.out | assumption)
    ((first
      | (go_at_call 18; refine (CD.out _ M8.out).mono ?_; rintro e1 w9 ⟨rfl, hb⟩; have B9 := Lib.hid (B8.out.trans (hb.mono B8.out.size)); have hs9 : w9.cell? ⟨w.heap.size, 0, none⟩ = some (.int .i64 a) ∧ w9.cell? ⟨w.heap.size, 1, none⟩ = some (.int .i64 b) := SpanAt.below hs8 hb (SpanAt.lt hs8))
      | (go_at_call 24; refine (CS2.out _ O7.out R7.out).mono ?_; rintro e1 w8 ⟨rfl, hb⟩; have B8 := Lib.hid (B7.out.trans (hb.mono B7.out.size)); have M8 := Lib.hid (M7.out.below hb); have hs8 : w8.cell? ⟨w.heap.size, 0, none⟩ = some (.int .i64 a) ∧ w8.cell? ⟨w.heap.size, 1, none⟩ = some (.int .i64 b) := SpanAt.below hs7 hb (SpanAt.lt hs7))
      | (go_at_call 24; refine (CS1.out _ (show PcsAt w6.drew p3 n3 F3 U3 V3 from M6.out) (show PcsAt w6.drew p4 n3 F4 U4 V4 from N6.out)).mono ?_; rintro e1 w7 ⟨rfl, hb⟩; have B7 : Hid (Below w.heap.size w w7) := (below_drewN B6.out 1).trans (hb.mono B6.out.size); have M7 : Hid (PcsAt w7 p3 n3 F3 U3 V3) := (show PcsAt w6.drew p3 n3 F3 U3 V3 from M6.out).below hb; have O7 : Hid (PcsAt w7 p5 n5 F5 U5 V5) := (show PcsAt w6.drew p5 n5 F5 U5 V5 from O6.out).below hb; have R7 : Hid (PcsAt w7 p6 n5 F6 U6 V6) := (show PcsAt w6.drew p6 n5 F6 U6 V6 from R6.out).below hb; have hs7 : w7.cell? ⟨w.heap.size, 0, none⟩ = some (.int .i64 a) ∧ w7.cell? ⟨w.heap.size, 1, none⟩ = some (.int .i64 b) := SpanAt.below (show SpanAt w6.drew w.heap.size a b from S6.out) hb S6.out.lt)))
  all_goals
    go_wp2_with fail
    go_ret
    exact ⟨rfl, B9.out⟩

theorem twice_law (p : Option Addr) (n cap : Nat) (F U V : Nat → Int) (a b u v : Int) (w : World) (hP : PcsAt w p n F U V) :
    Calls Try.prog 7 #[.slice p n cap, .agg #[.int .i64 a, .int .i64 b], .int .i64 u, .int .i64 v] w fun e w' => e = .returned (.bool true) ∧ Below w.heap.size w w' := by
  by_cases hn : n ≤ 40
  · rcases valid_or p n cap F U V a b with ⟨E, h0, C, _⟩ | ⟨hT, hs, C, _⟩
    · exact twice_bad p n cap F U V a b u v E _ w hP hn rfl h0 C
    · exact twice_ok p n cap F U V a b u v w hP hn hT hs C
  · exact twice_large p n cap a b u v w (by omega)

set_option maxRecDepth 100000 in
theorem twice_lifted (os : Os) (started : os.Started) (H : Type) (enc : TypeId × Value → H) :
    ReturnsInHanded {} Try.checked os 7 .any (Rows.timelineTwiceSpec.pre6 enc Try.prog Try.f7 [] false) (Rows.timelineTwiceSpec.post enc Try.prog Try.f7 false true false false) := by
  refine returnsInHanded_of_change (C := Try.checked) own started (by kernel_rfl) Try.func7
    (ChangeSpec.witness6 (enc := enc) (C := Try.checked) false ⟨#[], #[.slice none 0 0, .agg #[.int .i64 0, .int .i64 0], .int .i64 0, .int .i64 0], []⟩ 8 (by kernel_rfl) (by kernel_rfl) (by kernel_rfl) (by kernel_rfl)) ?_
  intro W base args ds gs before hval0 hW _ _
  have hval : ∀ (j : Nat) t v, Try.f7.params[j]? = some t → args[j]? = some v → Value.okWide Try.prog W .any base t v := hval0
  have hW' := hW
  obtain ⟨p, q, hA0, hV, rfl, hfz, hnd⟩ := hW
  have hA : DataW.TrodAll enc Try.prog W 0 (fun _ => true) true Try.f7.params.toList args.toList ds p := hA0
  rw [Try.params7] at hA hval
  obtain ⟨v0, v1, v2, v3, d0, d1, d2, d3, p0, p1, p2, p3, rfl, rfl, rfl, h0, h1, h2, h3⟩ := trodAll_four hA
  obtain ⟨rfl, rfl⟩ := trodVars_none hV
  obtain ⟨A0, n0, c0, F0, U0, V0, rfl, HG0⟩ := open_pcs (hval 0 22 v0 rfl rfl) h0
  obtain ⟨a1, b1, rfl⟩ := open_span (hval 1 33 v1 rfl rfl) h1
  obtain ⟨x2, rfl, rfl, rfl, wx2⟩ := open_int Try.underlying3 (hval 2 3 v2 rfl rfl) h2
  obtain ⟨x3, rfl, rfl, rfl, wx3⟩ := open_int Try.underlying3 (hval 3 3 v3 rfl rfl) h3
  refine (twice_law A0 n0 c0 F0 U0 V0 a1 b1 x2 x3 W HG0).mono fun e W' ⟨he, hb⟩ => ?_
  subst he
  exact ⟨_, rfl, post_true rfl rfl (by kernel_rfl) hW' rfl hb⟩

theorem twice_said : Rows.TimelineTwiceSaid :=
  OpenClaim.holds_of_wide 7 Try.f7 rfl rfl rfl rfl rfl rfl rfl ⟨rfl, rfl, rfl, rfl, rfl⟩ rfl rfl rfl rfl rfl (by kernel_rfl) Try.func7 (by kernel_rfl)
    (of_decide_eq_true (by kernel_rfl)) (by unfold Func.isWrapper; first | (rw [if_pos (by decide +kernel)]; kernel_rfl) | (rw [if_neg (by decide +kernel)]; exact ⟨rfl, rfl⟩))
    (fun os started H enc _ => twice_lifted os started H enc)
#print axioms twice_said

end Go.Proofs.Ytcgjhbjbfdbfaaa
