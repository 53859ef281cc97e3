/-
  PROVED HERE: the law archivumlaw04.TimelineSets answers true for every list of pieces, span and value: Set and Clear answer what the reference answers, or its errors. No condition. Every input is spoken of.
-/
import Derived.Test.YtcgjhbjbfdbfaaaKp
import Derived.Test.YtcgjhbjbfdbfaaaSa
import Derived.Test.YtcgjhbjbfdbfaaaLo
import Derived.Test.YtcgjhbjbfdbfaaaCg
namespace Go.Proofs.Ytcgjhbjbfdbfaaa
open Go.ChangeShapes Go.WideShapes Go.ChangeAt Go.RowKit Go.Joins

theorem Same_nil (w : World) : Calls Try.prog 24 #[.slice none 0 0, .slice none 0 0] w fun e w' => e = .returned (.bool true) ∧ Below w.heap.size w w' :=
  Same_eq none none 0 0 0 (fun _ => 0) (fun _ => 0) (fun _ => 0) (fun _ => 0) (fun _ => 0) (fun _ => 0) w (Or.inl rfl) (Or.inl rfl) (by omega) (fun i hi => absurd hi (by omega))

set_option maxRecDepth 100000 in
set_option maxHeartbeats 4000000 in
theorem sets_large (p : Option Addr) (n cap : Nat) (a b v : Int) (w : World) (hn : ¬ (n ≤ 40 ∨ (1024 < n ∧ n ≤ 1034))) :
    Calls Try.prog 4 #[.slice p n cap, .agg #[.int .i64 a, .int .i64 b], .int .i64 v] w fun e w' => e = .returned (.bool true) ∧ Below w.heap.size w w' := by
  have e : decide (n ≤ 40 ∨ (1024 < n ∧ n ≤ 1034)) = false := decide_eq_false hn
  clear hn
  go_enter Try.func4, Try.ntmps4
  go_wp2_with fail
  refine (awake_true _).mono ?_
  rintro e1 w1 ⟨rfl, hb⟩
  have B1 : Hid (Below w.heap.size w w1) := ((Below.refl _ _).alloc (Nat.le_refl _) _).trans (hb.mono (by simp))
  clear hb
  go_wp2_with fail
  refine (Few_any _ _ _ _).mono ?_
  rintro e1 w2 ⟨rfl, hb⟩
  have B2 := Lib.hid (B1.out.trans (hb.mono B1.out.size))
  clear hb B1
  rw [e]
  go_wp2_with fail
  go_ret
  exact ⟨rfl, B2.out⟩

set_option maxRecDepth 100000 in
set_option maxHeartbeats 8000000 in
theorem sets_bad (p : Option Addr) (n cap : Nat) (F U V : Nat → Int) (a b v E X : Int) (w : World) (hP : PcsAt w p n F U V) (hn : n ≤ 40 ∨ (1024 < n ∧ n ≤ 1034)) (hX : X = badE E a b) (h0 : X ≠ 0) (C : ChecksTo 16 p n cap F U V E) (C2 : ChecksTo 17 p n cap F U V E) :
    Calls Try.prog 4 #[.slice p n cap, .agg #[.int .i64 a, .int .i64 b], .int .i64 v] w fun e w' => e = .returned (.bool true) ∧ Below w.heap.size w w' := by
  have e : decide (n ≤ 40 ∨ (1024 < n ∧ n ≤ 1034)) = true := decide_eq_true (by omega)
  have P0 := Lib.hid (hP.below ((Below.refl _ _).alloc (Nat.le_refl _) (.cells #[.int .i64 a, .int .i64 b] 33)))
  have S0 : Hid (SpanAt (w.alloc (.cells #[.int .i64 a, .int .i64 b] 33)) w.heap.size a b) := ⟨World.cell?_alloc_new w _ 33 0, World.cell?_alloc_new w _ 33 1⟩
  have B0 : Hid (Below w.heap.size w (w.alloc (.cells #[.int .i64 a, .int .i64 b] 33))) := (Below.refl _ _).alloc (Nat.le_refl _) _
  have D1 : Hid (∀ w, PcsAt w p n F U V → Calls Try.prog 20 #[.slice p n cap, .agg #[.int .i64 a, .int .i64 b], .int .i64 v] w fun e w' => e = .returned (.tuple #[.slice none 0 0, .int .i64 X]) ∧ Below w.heap.size w w') := fun w h => Set_bad p n cap F U V a b E X v w h hX h0 C
  have D2 : Hid (∀ w, PcsAt w p n F U V → Calls Try.prog 21 #[.slice p n cap, .agg #[.int .i64 a, .int .i64 b], .int .i64 v] w fun e w' => e = .returned (.tuple #[.slice none 0 0, .int .i64 X]) ∧ Below w.heap.size w w') := fun w h => refSet_bad p n cap F U V a b E X v w h hX h0 C2
  have D3 : Hid (∀ w, PcsAt w p n F U V → Calls Try.prog 22 #[.slice p n cap, .agg #[.int .i64 a, .int .i64 b]] w fun e w' => e = .returned (.tuple #[.slice none 0 0, .int .i64 X]) ∧ Below w.heap.size w w') := fun w h => Clear_bad p n cap F U V a b E X w h hX h0 C
  have D4 : Hid (∀ w, PcsAt w p n F U V → Calls Try.prog 23 #[.slice p n cap, .agg #[.int .i64 a, .int .i64 b]] w fun e w' => e = .returned (.tuple #[.slice none 0 0, .int .i64 X]) ∧ Below w.heap.size w w') := fun w h => refClear_bad p n cap F U V a b E X w h hX h0 C2
  clear hP hn hX h0 C C2
  go_enter Try.func4, Try.ntmps4
  go_wp2_with fail
  refine (awake_true _).mono ?_
  rintro e1 w1 ⟨rfl, hb⟩
  have P1 := Lib.hid (P0.out.below hb)
  have S1 := Lib.hid (S0.out.below hb S0.out.lt)
  have B1 := Lib.hid (B0.out.trans (hb.mono B0.out.size))
  clear hb P0 S0 B0
  go_wp2_with fail
  refine (Few_any _ _ _ _).mono ?_
  rintro e1 w2 ⟨rfl, hb⟩
  have P2 := Lib.hid (P1.out.below hb)
  have S2 := Lib.hid (S1.out.below hb S1.out.lt)
  have B2 := Lib.hid (B1.out.trans (hb.mono B1.out.size))
  clear hb P1 S1 B1
  rw [e]
  have s0 := S2.out.1; have s1 := S2.out.2
  go_wp2_with fail
  refine (D1.out _ P2.out).mono ?_
  rintro e1 w3 ⟨rfl, hb⟩
  have P3 := Lib.hid (P2.out.below hb)
  have S3 := Lib.hid (S2.out.below hb S2.out.lt)
  have B3 := Lib.hid (B2.out.trans (hb.mono B2.out.size))
  clear s0 s1
  clear hb P2 S2 B2
  have s0 := S3.out.1; have s1 := S3.out.2
  go_wp2_with fail
  refine (D2.out _ P3.out).mono ?_
  rintro e1 w4 ⟨rfl, hb⟩
  have P4 := Lib.hid (P3.out.below hb)
  have S4 := Lib.hid (S3.out.below hb S3.out.lt)
  have B4 := Lib.hid (B3.out.trans (hb.mono B3.out.size))
  clear s0 s1
  clear hb P3 S3 B3
  have s0 := S4.out.1; have s1 := S4.out.2
  go_wp2_with fail
  refine (D3.out _ P4.out).mono ?_
  rintro e1 w5 ⟨rfl, hb⟩
  have P5 := Lib.hid (P4.out.below hb)
  have S5 := Lib.hid (S4.out.below hb S4.out.lt)
  have B5 := Lib.hid (B4.out.trans (hb.mono B4.out.size))
  clear s0 s1
  clear hb P4 S4 B4
  have s0 := S5.out.1; have s1 := S5.out.2
  go_wp2_with fail
  refine (D4.out _ P5.out).mono ?_
  rintro e1 w6 ⟨rfl, hb⟩
  have P6 := Lib.hid (P5.out.below hb)
  have S6 := Lib.hid (S5.out.below hb S5.out.lt)
  have B6 := Lib.hid (B5.out.trans (hb.mono B5.out.size))
  clear s0 s1
  clear hb P5 S5 B5
  have s0 := S6.out.1; have s1 := S6.out.2
  go_wp2_with fail
  refine (Same_nil _).mono ?_
  rintro e1 w7 ⟨rfl, hb⟩
  have S7 := Lib.hid (S6.out.below hb S6.out.lt)
  have B7 := Lib.hid (B6.out.trans (hb.mono B6.out.size))
  clear s0 s1
  clear hb S6 B6
  clear P6
  go_wp2_with fail
  refine (Same_nil _).mono ?_
  rintro e1 w8 ⟨rfl, hb⟩
  have S8 := Lib.hid (S7.out.below hb S7.out.lt)
  have B8 := Lib.hid (B7.out.trans (hb.mono B7.out.size))
  clear hb S7 B7
  go_wp2_with fail
  go_ret
  exact ⟨rfl, B8.out⟩

set_option maxRecDepth 100000 in
set_option maxHeartbeats 8000000 in
theorem sets_ok (p : Option Addr) (n cap : Nat) (F U V : Nat → Int) (a b v : Int) (w : World) (hP : PcsAt w p n F U V) (hn : n ≤ 40) (hT : Tl n F U V) (hs : spn a b) (C : ChecksTo 16 p n cap F U V 0) (C2 : ChecksTo 17 p n cap F U V 0) :
    Calls Try.prog 4 #[.slice p n cap, .agg #[.int .i64 a, .int .i64 b], .int .i64 v] w fun e w' => e = .returned (.bool true) ∧ Below w.heap.size w w' := by
  have e : decide (n ≤ 40 ∨ (1024 < n ∧ n ≤ 1034)) = true := decide_eq_true (by omega)
  have P0 := Lib.hid (hP.below ((Below.refl _ _).alloc (Nat.le_refl _) (.cells #[.int .i64 a, .int .i64 b] 33)))
  have S0 : Hid (SpanAt (w.alloc (.cells #[.int .i64 a, .int .i64 b] 33)) w.heap.size a b) := ⟨World.cell?_alloc_new w _ 33 0, World.cell?_alloc_new w _ 33 1⟩
  have B0 : Hid (Below w.heap.size w (w.alloc (.cells #[.int .i64 a, .int .i64 b] 33))) := (Below.refl _ _).alloc (Nat.le_refl _) _
  have T := Lib.hid hT; have HS := Lib.hid hs; have D := Lib.hid C; have E := Lib.hid C2
  clear hP hT hs C C2
  go_enter Try.func4, Try.ntmps4
  go_wp2_with fail
  refine (awake_true _).mono ?_
  rintro e1 w1 ⟨rfl, hb⟩
  have P1 := Lib.hid (P0.out.below hb)
  have S1 := Lib.hid (S0.out.below hb S0.out.lt)
  have B1 := Lib.hid (B0.out.trans (hb.mono B0.out.size))
  clear hb P0 S0 B0
  go_wp2_with fail
  refine (Few_any _ _ _ _).mono ?_
  rintro e1 w2 ⟨rfl, hb⟩
  have P2 := Lib.hid (P1.out.below hb)
  have S2 := Lib.hid (S1.out.below hb S1.out.lt)
  have B2 := Lib.hid (B1.out.trans (hb.mono B1.out.size))
  clear hb P1 S1 B1
  rw [e]
  have s0 := S2.out.1; have s1 := S2.out.2
  go_wp2_with fail
  refine (Set_ok p n cap F U V a b v _ P2.out (by omega) T.out HS.out D.out).mono ?_
  rintro e1 w3 ⟨p3, n3, cap3, F3, U3, V3, rfl, hL, hb, hS⟩
  have P3 := Lib.hid (P2.out.below hb)
  have S3 := Lib.hid (S2.out.below hb S2.out.lt)
  have B3 := Lib.hid (B2.out.trans (hb.mono B2.out.size))
  have L3 := Lib.hid hL.pcs; have Q3 := Lib.hid hS
  clear hL hS s0 s1
  have s0 := S3.out.1; have s1 := S3.out.2
  clear hb P2 S2 B2
  go_wp2_with fail
  refine (refSet_ok p n cap F U V a b v _ P3.out (by omega) T.out HS.out E.out).mono ?_
  rintro e1 w4 ⟨p4, n4, cap4, F4, U4, V4, rfl, hL, hb, hT4, hH4⟩
  have P4 := Lib.hid (P3.out.below hb)
  have S4 := Lib.hid (S3.out.below hb S3.out.lt)
  have B4 := Lib.hid (B3.out.trans (hb.mono B3.out.size))
  have L4 := Lib.hid (L3.out.below hb); have M4 := Lib.hid hL; have T4 := Lib.hid hT4; have H4 := Lib.hid hH4
  clear hL hT4 hH4 L3 s0 s1
  have s0 := S4.out.1; have s1 := S4.out.2
  clear hb P3 S3 B3
  go_wp2_with fail
  refine (Clear_ok p n cap F U V a b _ P4.out (by omega) T.out HS.out D.out).mono ?_
  rintro e1 w5 ⟨p5, n5, cap5, F5, U5, V5, rfl, hL, hb, hS⟩
  have P5 := Lib.hid (P4.out.below hb)
  have S5 := Lib.hid (S4.out.below hb S4.out.lt)
  have B5 := Lib.hid (B4.out.trans (hb.mono B4.out.size))
  have L5 := Lib.hid (L4.out.below hb); have M5 := Lib.hid (M4.out.below hb); have N5 := Lib.hid hL.pcs; have Q5 := Lib.hid hS
  clear hL hS L4 M4 s0 s1
  have s0 := S5.out.1; have s1 := S5.out.2
  clear hb P4 S4 B4
  go_wp2_with fail
  refine (refClear_ok p n cap F U V a b _ P5.out (by omega) T.out HS.out E.out).mono ?_
  rintro e1 w6 ⟨p6, n6, cap6, F6, U6, V6, rfl, hL, hb, hT6, hH6⟩
  have S6 := Lib.hid (S5.out.below hb S5.out.lt)
  have B6 := Lib.hid (B5.out.trans (hb.mono B5.out.size))
  have L6 := Lib.hid (L5.out.below hb); have M6 := Lib.hid (M5.out.below hb); have N6 := Lib.hid (N5.out.below hb); have O6 := Lib.hid hL; have T6 := Lib.hid hT6; have H6 := Lib.hid hH6
  clear hL hT6 hH6 L5 M5 N5 s0 s1
  clear hb S5 B5
  obtain ⟨e1, E1⟩ := Q3.out.1.unique T4.out (fun d x => by rw [Q3.out.2.2, H4.out])
  obtain ⟨e2, E2⟩ := Q5.out.1.unique T6.out (fun d x => by rw [Q5.out.2.2, H6.out])
  subst e1; subst e2
  have HE1 := Lib.hid E1; have HE2 := Lib.hid E2
  have hn3 : (n3 : Int) ≤ 2000 := by have := Q3.out.2.1; omega
  have hn5 : (n5 : Int) ≤ 2000 := by have := Q5.out.2.1; omega
  clear E1 E2
  go_wp2_with fail
  refine (Same_eq p3 p4 n3 cap3 cap4 F3 U3 V3 F4 U4 V4 _ L6.out M6.out hn3 HE1.out).mono ?_
  rintro e1 w7 ⟨rfl, hb⟩
  have S7 := Lib.hid (S6.out.below hb S6.out.lt)
  have B7 := Lib.hid (B6.out.trans (hb.mono B6.out.size))
  have N7 := Lib.hid (N6.out.below hb); have O7 := Lib.hid (O6.out.below hb)
  clear L6 M6 N6 O6
  clear hb S6 B6
  go_wp2_with fail
  refine (Same_eq p5 p6 n5 cap5 cap6 F5 U5 V5 F6 U6 V6 _ N7.out O7.out hn5 HE2.out).mono ?_
  rintro e1 w8 ⟨rfl, hb⟩
  have S8 := Lib.hid (S7.out.below hb S7.out.lt)
  have B8 := Lib.hid (B7.out.trans (hb.mono B7.out.size))
  clear hb S7 B7
  go_wp2_with fail
  go_ret
  exact ⟨rfl, B8.out⟩

theorem sets_law (p : Option Addr) (n cap : Nat) (F U V : Nat → Int) (a b v : Int) (w : World) (hP : PcsAt w p n F U V) :
    Calls Try.prog 4 #[.slice p n cap, .agg #[.int .i64 a, .int .i64 b], .int .i64 v] w fun e w' => e = .returned (.bool true) ∧ Below w.heap.size w w' := by
  by_cases hn : n ≤ 40 ∨ (1024 < n ∧ n ≤ 1034)
  · by_cases h4 : n ≤ 40
    · rcases valid_or p n cap F U V a b with ⟨E, h0, C, C2⟩ | ⟨hT, hs, C, C2⟩
      · exact sets_bad p n cap F U V a b v E _ w hP hn rfl h0 C C2
      · exact sets_ok p n cap F U V a b v w hP h4 hT hs C C2
    · obtain ⟨E, h1, h2, h3⟩ := check_both p n cap F U V
      have hE : E ≠ 0 := fun e => by
        have := (h3.1 e).1
        omega
      exact sets_bad p n cap F U V a b v E _ w hP hn rfl (by rw [badE, if_pos hE]; exact hE) h1 h2
  · exact sets_large p n cap a b v w hn

set_option maxRecDepth 100000 in
theorem sets_lifted (os : Os) (started : os.Started) (H : Type) (enc : TypeId × Value → H) :
    ReturnsInHanded {} Try.checked os 4 .any (Rows.timelineSetsSpec.pre6 enc Try.prog Try.f4 [] false) (Rows.timelineSetsSpec.post enc Try.prog Try.f4 false true false false) := by
  refine returnsInHanded_of_change (C := Try.checked) own started (by kernel_rfl) Try.func4
    (ChangeSpec.witness6 (enc := enc) (C := Try.checked) false ⟨#[], #[.slice none 0 0, .agg #[.int .i64 0, .int .i64 0], .int .i64 0], []⟩ 8 (by kernel_rfl) (by kernel_rfl) (by kernel_rfl) (by kernel_rfl)) ?_
  intro W base args ds gs before hval0 hW _ _
  have hval : ∀ (j : Nat) t v, Try.f4.params[j]? = some t → args[j]? = some v → Value.okWide Try.prog W .any base t v := hval0
  have hW' := hW
  obtain ⟨p, q, hA0, hV, rfl, hfz, hnd⟩ := hW
  have hA : DataW.TrodAll enc Try.prog W 0 (fun _ => true) true Try.f4.params.toList args.toList ds p := hA0
  rw [Try.params4] at hA hval
  obtain ⟨v0, v1, v2, d0, d1, d2, p0, p1, p2, rfl, rfl, rfl, h0, h1, h2⟩ := trodAll_three hA
  obtain ⟨rfl, rfl⟩ := trodVars_none hV
  obtain ⟨A0, n0, c0, F0, U0, V0, rfl, HG0⟩ := open_pcs (hval 0 22 v0 rfl rfl) h0
  obtain ⟨a1, b1, rfl⟩ := open_span (hval 1 33 v1 rfl rfl) h1
  obtain ⟨x2, rfl, rfl, rfl, wx2⟩ := open_int Try.underlying3 (hval 2 3 v2 rfl rfl) h2
  refine (sets_law A0 n0 c0 F0 U0 V0 a1 b1 x2 W HG0).mono fun e W' ⟨he, hb⟩ => ?_
  subst he
  exact ⟨_, rfl, post_true rfl rfl (by kernel_rfl) hW' rfl hb⟩

theorem sets_said : Rows.TimelineSetsSaid :=
  OpenClaim.holds_of_wide 4 Try.f4 rfl rfl rfl rfl rfl rfl rfl ⟨rfl, rfl, rfl, rfl, rfl⟩ rfl rfl rfl rfl rfl (by kernel_rfl) Try.func4 (by kernel_rfl)
    (of_decide_eq_true (by kernel_rfl)) (by unfold Func.isWrapper; first | (rw [if_pos (by decide +kernel)]; kernel_rfl) | (rw [if_neg (by decide +kernel)]; exact ⟨rfl, rfl⟩))
    (fun os started H enc _ => sets_lifted os started H enc)
#print axioms sets_said

end Go.Proofs.Ytcgjhbjbfdbfaaa
