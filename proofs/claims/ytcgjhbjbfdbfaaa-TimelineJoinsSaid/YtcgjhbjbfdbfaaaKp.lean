/-
  PROVED HERE: the law archivumlaw04.TimelineKeeps answers true for every list of pieces, span, value and day: setting and clearing change the days of their span alone, and lead to a timeline in order. No condition. Every input is spoken of.
-/
import Derived.Test.YtcgjhbjbfdbfaaaAw
import Derived.Test.YtcgjhbjbfdbfaaaKit
namespace Go.Proofs.Ytcgjhbjbfdbfaaa
open Go.ChangeShapes Go.WideShapes Go.ChangeAt Go.RowKit Go.Joins

/-- What At answers. -/
def AtRes (n : Nat) (F U V : Nat → Int) (d A : Int) (O : Bool) : Prop := (O = true ∧ Has n F U V d A) ∨ (O = false ∧ A = 0 ∧ ∀ x, ¬ Has n F U V d x)
theorem AtRes.same {n n' : Nat} {F U V F' U' V' : Nat → Int} {d A A' : Int} {O O' : Bool} (hW : Wk n F U) (h : AtRes n F U V d A O) (h' : AtRes n' F' U' V' d A' O') (hh : ∀ x, Has n' F' U' V' d x ↔ Has n F U V d x) : A' = A ∧ O' = O := by
  rcases h with ⟨rfl, h⟩ | ⟨rfl, rfl, h⟩
  · rcases h' with ⟨rfl, h'⟩ | ⟨rfl, rfl, h'⟩
    · exact ⟨(((hh _).1 h').fn hW h), rfl⟩
    · exact absurd ((hh _).2 h) (h' _)
  · rcases h' with ⟨rfl, h'⟩ | ⟨rfl, rfl, h'⟩
    · exact absurd ((hh _).1 h') (h _)
    · exact ⟨rfl, rfl⟩
/-- A list and a span are valid, or there is one error. -/
theorem valid_or (p : Option Addr) (n cap : Nat) (F U V : Nat → Int) (a b : Int) : (∃ E, badE E a b ≠ 0 ∧ ChecksTo 16 p n cap F U V E ∧ ChecksTo 17 p n cap F U V E) ∨ (Tl n F U V ∧ spn a b ∧ ChecksTo 16 p n cap F U V 0 ∧ ChecksTo 17 p n cap F U V 0) := by
  obtain ⟨E, h1, h2, h3⟩ := check_both p n cap F U V
  by_cases hE : E = 0
  · subst hE
    by_cases hs : spn a b
    · exact Or.inr ⟨(ordP_iff.1 (h3.1 rfl)).2, hs, h1, h2⟩
    · exact Or.inl ⟨0, by rw [badE, if_neg (by simp), if_neg hs]; decide, h1, h2⟩
  · exact Or.inl ⟨E, by rw [badE, if_pos hE]; exact hE, h1, h2⟩

set_option maxRecDepth 100000 in
set_option maxHeartbeats 4000000 in
theorem keeps_large (p : Option Addr) (n cap : Nat) (a b v d : Int) (w : World) (hn : 40 < n) :
    Calls Try.prog 6 #[.slice p n cap, .agg #[.int .i64 a, .int .i64 b], .int .i64 v, .int .i64 d] w fun e w' => e = .returned (.bool true) ∧ Below w.heap.size w w' := by
  have hk : (40 : Int) < (n : Int) := by omega
  go_enter Try.func6, Try.ntmps6
  go_wp2_with fail
  refine (awake_true _).mono ?_
  rintro e1 w1 ⟨rfl, hb⟩
  have B1 : Hid (Below w.heap.size w w1) := ((Below.refl _ _).alloc (Nat.le_refl _) _).trans (hb.mono (by simp))
  clear hb
  go_wp2_with fail
  go_ret
  exact ⟨rfl, B1.out⟩

set_option maxRecDepth 100000 in
set_option maxHeartbeats 4000000 in
theorem keeps_bad (p : Option Addr) (n cap : Nat) (F U V : Nat → Int) (a b v d E X : Int) (w : World) (hP : PcsAt w p n F U V) (hn : n ≤ 40) (hX : X = badE E a b) (h0 : X ≠ 0) (C : ChecksTo 16 p n cap F U V E) :
    Calls Try.prog 6 #[.slice p n cap, .agg #[.int .i64 a, .int .i64 b], .int .i64 v, .int .i64 d] w fun e w' => e = .returned (.bool true) ∧ Below w.heap.size w w' := by
  have hk : (n : Int) ≤ 40 := by omega
  have P0 := Lib.hid (hP.below ((Below.refl _ _).alloc (Nat.le_refl _) (.cells #[.int .i64 a, .int .i64 b] 33)))
  have hx : (X != 0) = true := by simpa using h0
  have C1 : Hid (∀ w, PcsAt w p n F U V → Calls Try.prog 20 #[.slice p n cap, .agg #[.int .i64 a, .int .i64 b], .int .i64 v] w fun e w' => e = .returned (.tuple #[.slice none 0 0, .int .i64 X]) ∧ Below w.heap.size w w') := fun w h => Set_bad p n cap F U V a b E X v w h hX h0 C
  have C2 : Hid (∀ w, PcsAt w p n F U V → Calls Try.prog 22 #[.slice p n cap, .agg #[.int .i64 a, .int .i64 b]] w fun e w' => e = .returned (.tuple #[.slice none 0 0, .int .i64 X]) ∧ Below w.heap.size w w') := fun w h => Clear_bad p n cap F U V a b E X w h hX h0 C
  have S0 : Hid (SpanAt (w.alloc (.cells #[.int .i64 a, .int .i64 b] 33)) w.heap.size a b) := ⟨World.cell?_alloc_new w _ 33 0, World.cell?_alloc_new w _ 33 1⟩
  clear hX h0 C hP
  go_enter Try.func6, Try.ntmps6
  go_wp2_with fail
  refine (awake_true _).mono ?_
  rintro e1 w1 ⟨rfl, hb⟩
  have P1 := Lib.hid (P0.out.below hb); have S1 := Lib.hid (S0.out.below hb S0.out.lt)
  have B1 : Hid (Below w.heap.size w w1) := ((Below.refl _ _).alloc (Nat.le_refl _) _).trans (hb.mono (by simp))
  have s0 := S1.out.1; have s1 := S1.out.2
  clear hb
  go_wp2_with fail
  refine (C1.out _ P1.out).mono ?_
  rintro e1 w2 ⟨rfl, hb⟩
  have P2 := Lib.hid (P1.out.below hb); have S2 := Lib.hid (S1.out.below hb S1.out.lt); have B2 := Lib.hid (B1.out.trans (hb.mono B1.out.size))
  clear hb s0 s1 P1 B1
  have s0 := S2.out.1; have s1 := S2.out.2
  go_wp2_with fail
  refine (C2.out _ P2.out).mono ?_
  rintro e1 w3 ⟨rfl, hb⟩
  have B3 := Lib.hid (B2.out.trans (hb.mono B2.out.size))
  clear hb s0 s1 P2 B2
  go_wp2_with fail
  go_ret
  exact ⟨rfl, B3.out⟩

set_option maxRecDepth 100000 in
set_option maxHeartbeats 8000000 in
theorem keeps_in (p : Option Addr) (n cap : Nat) (F U V : Nat → Int) (a b v d : Int) (w : World) (hP : PcsAt w p n F U V) (hn : n ≤ 40) (hT : Tl n F U V) (hs : spn a b) (C : ChecksTo 16 p n cap F U V 0) (hd : a ≤ d ∧ d < b) :
    Calls Try.prog 6 #[.slice p n cap, .agg #[.int .i64 a, .int .i64 b], .int .i64 v, .int .i64 d] w fun e w' => e = .returned (.bool true) ∧ Below w.heap.size w w' := by
  have hk : (n : Int) ≤ 40 := by omega
  have P0 := Lib.hid (hP.below ((Below.refl _ _).alloc (Nat.le_refl _) (.cells #[.int .i64 a, .int .i64 b] 33)))
  have T := Lib.hid hT; have HS := Lib.hid hs; have D := Lib.hid C
  have S0 : Hid (SpanAt (w.alloc (.cells #[.int .i64 a, .int .i64 b] 33)) w.heap.size a b) := ⟨World.cell?_alloc_new w _ 33 0, World.cell?_alloc_new w _ 33 1⟩
  have B0 : Hid (Below w.heap.size w (w.alloc (.cells #[.int .i64 a, .int .i64 b] 33))) := (Below.refl _ _).alloc (Nat.le_refl _) _
  have HD := Lib.hid hd
  have hd1 := hd.1; have hd2 := hd.2
  clear hd
  clear hP hT hs C
  go_enter Try.func6, Try.ntmps6
  go_wp2_with fail
  refine (awake_true _).mono ?_
  rintro e1 w1 ⟨rfl, hb⟩
  have P1 := Lib.hid (P0.out.below hb)
  have S1 := Lib.hid (S0.out.below hb S0.out.lt)
  have B1 := Lib.hid (B0.out.trans (hb.mono B0.out.size))
  clear hb P0 S0 B0
  have s0 := S1.out.1; have s1 := S1.out.2
  go_wp2_with fail
  refine (Set_ok p n cap F U V a b v _ P1.out (by omega) T.out HS.out D.out).mono ?_
  rintro e1 w2 ⟨p2, n2, cap2, F2, U2, V2, rfl, hL, hb, hS⟩
  have P2 := Lib.hid (P1.out.below hb)
  have S2 := Lib.hid (S1.out.below hb S1.out.lt)
  have B2 := Lib.hid (B1.out.trans (hb.mono B1.out.size))
  have L2 := Lib.hid hL.pcs; have Q2 := Lib.hid hS
  clear hL hS s0 s1
  have s0 := S2.out.1; have s1 := S2.out.2
  clear hb P1 S1 B1
  go_wp2_with fail
  refine (Clear_ok p n cap F U V a b _ P2.out (by omega) T.out HS.out D.out).mono ?_
  rintro e1 w3 ⟨p3, n3, cap3, F3, U3, V3, rfl, hM, hb, hC⟩
  have P3 := Lib.hid (P2.out.below hb)
  have S3 := Lib.hid (S2.out.below hb S2.out.lt)
  have B3 := Lib.hid (B2.out.trans (hb.mono B2.out.size))
  have L3 := Lib.hid (L2.out.below hb); have M3 := Lib.hid hM.pcs; have Q3 := Lib.hid hC
  clear hM hC L2 s0 s1
  clear hb P2 S2 B2
  have hn2 : n2 ≤ 43 := by have := Q2.out.2.1; omega
  have hn3 : n3 ≤ 42 := by have := Q3.out.2.1; omega
  go_wp2_with fail
  refine (At_any p n cap F U V d _ P3.out (by omega) T.out.1).mono ?_
  rintro e1 w4 ⟨A1, O1, rfl, hb, h1⟩
  have P4 := Lib.hid (P3.out.below hb)
  have S4 := Lib.hid (S3.out.below hb S3.out.lt)
  have B4 := Lib.hid (B3.out.trans (hb.mono B3.out.size))
  have L4 := Lib.hid (L3.out.below hb); have M4 := Lib.hid (M3.out.below hb)
  clear L3 M3
  have R1 : Hid (AtRes n F U V d A1 O1) := h1
  clear h1
  clear hb P3 S3 B3
  go_wp2_with fail
  refine (At_any p2 n2 cap2 F2 U2 V2 d _ L4.out (by omega) Q2.out.1.1).mono ?_
  rintro e1 w5 ⟨A2, O2, rfl, hb, h2⟩
  have P5 := Lib.hid (P4.out.below hb)
  have S5 := Lib.hid (S4.out.below hb S4.out.lt)
  have B5 := Lib.hid (B4.out.trans (hb.mono B4.out.size))
  have L5 := Lib.hid (L4.out.below hb); have M5 := Lib.hid (M4.out.below hb)
  clear L4 M4
  have R2 : Hid (AtRes n2 F2 U2 V2 d A2 O2) := h2
  clear h2
  clear hb P4 S4 B4
  go_wp2_with fail
  refine (At_any p3 n3 cap3 F3 U3 V3 d _ M5.out (by omega) Q3.out.1.1).mono ?_
  rintro e1 w6 ⟨A3, O3, rfl, hb, h3⟩
  have P6 := Lib.hid (P5.out.below hb)
  have S6 := Lib.hid (S5.out.below hb S5.out.lt)
  have B6 := Lib.hid (B5.out.trans (hb.mono B5.out.size))
  have L6 := Lib.hid (L5.out.below hb); have M6 := Lib.hid (M5.out.below hb)
  clear L5 M5
  have R3 : Hid (AtRes n3 F3 U3 V3 d A3 O3) := h3
  clear h3
  obtain ⟨rfl, rfl⟩ : A2 = v ∧ O2 = true := by
    rcases R2.out with ⟨h, g⟩ | ⟨_, _, g⟩
    · exact ⟨((Q2.out.in d A2 HD.out).1 g).symm, h⟩
    · exact absurd ((Q2.out.in d v HD.out).2 rfl) (g v)
  obtain ⟨rfl, rfl⟩ : A3 = 0 ∧ O3 = false := by
    rcases R3.out with ⟨_, g⟩ | ⟨h, g, _⟩
    · exact absurd g (Q3.out.in d A3 HD.out)
    · exact ⟨g, h⟩
  clear hb P5 S5 B5
  go_wp2_with fail
  refine (checks_ok p2 n2 cap2 F2 U2 V2 (by omega) Q2.out.1 _ L6.out).mono ?_
  rintro e1 w7 ⟨rfl, hb⟩
  have S7 := Lib.hid (S6.out.below hb S6.out.lt)
  have B7 := Lib.hid (B6.out.trans (hb.mono B6.out.size))
  have M7 := Lib.hid (M6.out.below hb)
  clear M6 L6
  clear hb S6 B6
  go_wp2_with fail
  refine (checks_ok p3 n3 cap3 F3 U3 V3 (by omega) Q3.out.1 _ M7.out).mono ?_
  rintro e1 w8 ⟨rfl, hb⟩
  have S8 := Lib.hid (S7.out.below hb S7.out.lt)
  have B8 := Lib.hid (B7.out.trans (hb.mono B7.out.size))
  clear hb S7 B7
  have s0 := S8.out.1; have s1 := S8.out.2
  go_wp2_with fail
  all_goals
    go_ret
    exact ⟨rfl, B8.out⟩

set_option maxRecDepth 100000 in
set_option maxHeartbeats 8000000 in
theorem keeps_before (p : Option Addr) (n cap : Nat) (F U V : Nat → Int) (a b v d : Int) (w : World) (hP : PcsAt w p n F U V) (hn : n ≤ 40) (hT : Tl n F U V) (hs : spn a b) (C : ChecksTo 16 p n cap F U V 0) (hd : d < a) :
    Calls Try.prog 6 #[.slice p n cap, .agg #[.int .i64 a, .int .i64 b], .int .i64 v, .int .i64 d] w fun e w' => e = .returned (.bool true) ∧ Below w.heap.size w w' := by
  have hk : (n : Int) ≤ 40 := by omega
  have P0 := Lib.hid (hP.below ((Below.refl _ _).alloc (Nat.le_refl _) (.cells #[.int .i64 a, .int .i64 b] 33)))
  have T := Lib.hid hT; have HS := Lib.hid hs; have D := Lib.hid C
  have S0 : Hid (SpanAt (w.alloc (.cells #[.int .i64 a, .int .i64 b] 33)) w.heap.size a b) := ⟨World.cell?_alloc_new w _ 33 0, World.cell?_alloc_new w _ 33 1⟩
  have B0 : Hid (Below w.heap.size w (w.alloc (.cells #[.int .i64 a, .int .i64 b] 33))) := (Below.refl _ _).alloc (Nat.le_refl _) _
  have HD : Hid (¬ (a ≤ d ∧ d < b)) := fun h => by omega
  clear hP hT hs C
  go_enter Try.func6, Try.ntmps6
  go_wp2_with fail
  refine (awake_true _).mono ?_
  rintro e1 w1 ⟨rfl, hb⟩
  have P1 := Lib.hid (P0.out.below hb)
  have S1 := Lib.hid (S0.out.below hb S0.out.lt)
  have B1 := Lib.hid (B0.out.trans (hb.mono B0.out.size))
  clear hb P0 S0 B0
  have s0 := S1.out.1; have s1 := S1.out.2
  go_wp2_with fail
  refine (Set_ok p n cap F U V a b v _ P1.out (by omega) T.out HS.out D.out).mono ?_
  rintro e1 w2 ⟨p2, n2, cap2, F2, U2, V2, rfl, hL, hb, hS⟩
  have P2 := Lib.hid (P1.out.below hb)
  have S2 := Lib.hid (S1.out.below hb S1.out.lt)
  have B2 := Lib.hid (B1.out.trans (hb.mono B1.out.size))
  have L2 := Lib.hid hL.pcs; have Q2 := Lib.hid hS
  clear hL hS s0 s1
  have s0 := S2.out.1; have s1 := S2.out.2
  clear hb P1 S1 B1
  go_wp2_with fail
  refine (Clear_ok p n cap F U V a b _ P2.out (by omega) T.out HS.out D.out).mono ?_
  rintro e1 w3 ⟨p3, n3, cap3, F3, U3, V3, rfl, hM, hb, hC⟩
  have P3 := Lib.hid (P2.out.below hb)
  have S3 := Lib.hid (S2.out.below hb S2.out.lt)
  have B3 := Lib.hid (B2.out.trans (hb.mono B2.out.size))
  have L3 := Lib.hid (L2.out.below hb); have M3 := Lib.hid hM.pcs; have Q3 := Lib.hid hC
  clear hM hC L2 s0 s1
  clear hb P2 S2 B2
  have hn2 : n2 ≤ 43 := by have := Q2.out.2.1; omega
  have hn3 : n3 ≤ 42 := by have := Q3.out.2.1; omega
  go_wp2_with fail
  refine (At_any p n cap F U V d _ P3.out (by omega) T.out.1).mono ?_
  rintro e1 w4 ⟨A1, O1, rfl, hb, h1⟩
  have P4 := Lib.hid (P3.out.below hb)
  have S4 := Lib.hid (S3.out.below hb S3.out.lt)
  have B4 := Lib.hid (B3.out.trans (hb.mono B3.out.size))
  have L4 := Lib.hid (L3.out.below hb); have M4 := Lib.hid (M3.out.below hb)
  clear L3 M3
  have R1 : Hid (AtRes n F U V d A1 O1) := h1
  clear h1
  clear hb P3 S3 B3
  go_wp2_with fail
  refine (At_any p2 n2 cap2 F2 U2 V2 d _ L4.out (by omega) Q2.out.1.1).mono ?_
  rintro e1 w5 ⟨A2, O2, rfl, hb, h2⟩
  have P5 := Lib.hid (P4.out.below hb)
  have S5 := Lib.hid (S4.out.below hb S4.out.lt)
  have B5 := Lib.hid (B4.out.trans (hb.mono B4.out.size))
  have L5 := Lib.hid (L4.out.below hb); have M5 := Lib.hid (M4.out.below hb)
  clear L4 M4
  have R2 : Hid (AtRes n2 F2 U2 V2 d A2 O2) := h2
  clear h2
  clear hb P4 S4 B4
  go_wp2_with fail
  refine (At_any p3 n3 cap3 F3 U3 V3 d _ M5.out (by omega) Q3.out.1.1).mono ?_
  rintro e1 w6 ⟨A3, O3, rfl, hb, h3⟩
  have P6 := Lib.hid (P5.out.below hb)
  have S6 := Lib.hid (S5.out.below hb S5.out.lt)
  have B6 := Lib.hid (B5.out.trans (hb.mono B5.out.size))
  have L6 := Lib.hid (L5.out.below hb); have M6 := Lib.hid (M5.out.below hb)
  clear L5 M5
  have R3 : Hid (AtRes n3 F3 U3 V3 d A3 O3) := h3
  clear h3
  obtain ⟨rfl, rfl⟩ : A2 = A1 ∧ O2 = O1 := AtRes.same T.out.1 R1.out R2.out (fun x => Q2.out.other d x HD.out)
  obtain ⟨rfl, rfl⟩ : A3 = A2 ∧ O3 = O2 := AtRes.same T.out.1 R1.out R3.out (fun x => Q3.out.other d x HD.out)
  clear hb P5 S5 B5
  go_wp2_with fail
  refine (checks_ok p2 n2 cap2 F2 U2 V2 (by omega) Q2.out.1 _ L6.out).mono ?_
  rintro e1 w7 ⟨rfl, hb⟩
  have S7 := Lib.hid (S6.out.below hb S6.out.lt)
  have B7 := Lib.hid (B6.out.trans (hb.mono B6.out.size))
  have M7 := Lib.hid (M6.out.below hb)
  clear M6 L6
  clear hb S6 B6
  go_wp2_with fail
  refine (checks_ok p3 n3 cap3 F3 U3 V3 (by omega) Q3.out.1 _ M7.out).mono ?_
  rintro e1 w8 ⟨rfl, hb⟩
  have S8 := Lib.hid (S7.out.below hb S7.out.lt)
  have B8 := Lib.hid (B7.out.trans (hb.mono B7.out.size))
  clear hb S7 B7
  have s0 := S8.out.1; have s1 := S8.out.2
  go_wp2_with fail
  all_goals
    go_ret
    exact ⟨rfl, B8.out⟩

set_option maxRecDepth 100000 in
set_option maxHeartbeats 8000000 in
theorem keeps_behind (p : Option Addr) (n cap : Nat) (F U V : Nat → Int) (a b v d : Int) (w : World) (hP : PcsAt w p n F U V) (hn : n ≤ 40) (hT : Tl n F U V) (hs : spn a b) (C : ChecksTo 16 p n cap F U V 0) (hd : b ≤ d) :
    Calls Try.prog 6 #[.slice p n cap, .agg #[.int .i64 a, .int .i64 b], .int .i64 v, .int .i64 d] w fun e w' => e = .returned (.bool true) ∧ Below w.heap.size w w' := by
  have hk : (n : Int) ≤ 40 := by omega
  have P0 := Lib.hid (hP.below ((Below.refl _ _).alloc (Nat.le_refl _) (.cells #[.int .i64 a, .int .i64 b] 33)))
  have T := Lib.hid hT; have HS := Lib.hid hs; have D := Lib.hid C
  have S0 : Hid (SpanAt (w.alloc (.cells #[.int .i64 a, .int .i64 b] 33)) w.heap.size a b) := ⟨World.cell?_alloc_new w _ 33 0, World.cell?_alloc_new w _ 33 1⟩
  have B0 : Hid (Below w.heap.size w (w.alloc (.cells #[.int .i64 a, .int .i64 b] 33))) := (Below.refl _ _).alloc (Nat.le_refl _) _
  have HD : Hid (¬ (a ≤ d ∧ d < b)) := fun h => by omega
  have hd9 : a ≤ d := by have := hs.2.1; omega
  clear hP hT hs C
  go_enter Try.func6, Try.ntmps6
  go_wp2_with fail
  refine (awake_true _).mono ?_
  rintro e1 w1 ⟨rfl, hb⟩
  have P1 := Lib.hid (P0.out.below hb)
  have S1 := Lib.hid (S0.out.below hb S0.out.lt)
  have B1 := Lib.hid (B0.out.trans (hb.mono B0.out.size))
  clear hb P0 S0 B0
  have s0 := S1.out.1; have s1 := S1.out.2
  go_wp2_with fail
  refine (Set_ok p n cap F U V a b v _ P1.out (by omega) T.out HS.out D.out).mono ?_
  rintro e1 w2 ⟨p2, n2, cap2, F2, U2, V2, rfl, hL, hb, hS⟩
  have P2 := Lib.hid (P1.out.below hb)
  have S2 := Lib.hid (S1.out.below hb S1.out.lt)
  have B2 := Lib.hid (B1.out.trans (hb.mono B1.out.size))
  have L2 := Lib.hid hL.pcs; have Q2 := Lib.hid hS
  clear hL hS s0 s1
  have s0 := S2.out.1; have s1 := S2.out.2
  clear hb P1 S1 B1
  go_wp2_with fail
  refine (Clear_ok p n cap F U V a b _ P2.out (by omega) T.out HS.out D.out).mono ?_
  rintro e1 w3 ⟨p3, n3, cap3, F3, U3, V3, rfl, hM, hb, hC⟩
  have P3 := Lib.hid (P2.out.below hb)
  have S3 := Lib.hid (S2.out.below hb S2.out.lt)
  have B3 := Lib.hid (B2.out.trans (hb.mono B2.out.size))
  have L3 := Lib.hid (L2.out.below hb); have M3 := Lib.hid hM.pcs; have Q3 := Lib.hid hC
  clear hM hC L2 s0 s1
  clear hb P2 S2 B2
  have hn2 : n2 ≤ 43 := by have := Q2.out.2.1; omega
  have hn3 : n3 ≤ 42 := by have := Q3.out.2.1; omega
  go_wp2_with fail
  refine (At_any p n cap F U V d _ P3.out (by omega) T.out.1).mono ?_
  rintro e1 w4 ⟨A1, O1, rfl, hb, h1⟩
  have P4 := Lib.hid (P3.out.below hb)
  have S4 := Lib.hid (S3.out.below hb S3.out.lt)
  have B4 := Lib.hid (B3.out.trans (hb.mono B3.out.size))
  have L4 := Lib.hid (L3.out.below hb); have M4 := Lib.hid (M3.out.below hb)
  clear L3 M3
  have R1 : Hid (AtRes n F U V d A1 O1) := h1
  clear h1
  clear hb P3 S3 B3
  go_wp2_with fail
  refine (At_any p2 n2 cap2 F2 U2 V2 d _ L4.out (by omega) Q2.out.1.1).mono ?_
  rintro e1 w5 ⟨A2, O2, rfl, hb, h2⟩
  have P5 := Lib.hid (P4.out.below hb)
  have S5 := Lib.hid (S4.out.below hb S4.out.lt)
  have B5 := Lib.hid (B4.out.trans (hb.mono B4.out.size))
  have L5 := Lib.hid (L4.out.below hb); have M5 := Lib.hid (M4.out.below hb)
  clear L4 M4
  have R2 : Hid (AtRes n2 F2 U2 V2 d A2 O2) := h2
  clear h2
  clear hb P4 S4 B4
  go_wp2_with fail
  refine (At_any p3 n3 cap3 F3 U3 V3 d _ M5.out (by omega) Q3.out.1.1).mono ?_
  rintro e1 w6 ⟨A3, O3, rfl, hb, h3⟩
  have P6 := Lib.hid (P5.out.below hb)
  have S6 := Lib.hid (S5.out.below hb S5.out.lt)
  have B6 := Lib.hid (B5.out.trans (hb.mono B5.out.size))
  have L6 := Lib.hid (L5.out.below hb); have M6 := Lib.hid (M5.out.below hb)
  clear L5 M5
  have R3 : Hid (AtRes n3 F3 U3 V3 d A3 O3) := h3
  clear h3
  obtain ⟨rfl, rfl⟩ : A2 = A1 ∧ O2 = O1 := AtRes.same T.out.1 R1.out R2.out (fun x => Q2.out.other d x HD.out)
  obtain ⟨rfl, rfl⟩ : A3 = A2 ∧ O3 = O2 := AtRes.same T.out.1 R1.out R3.out (fun x => Q3.out.other d x HD.out)
  clear hb P5 S5 B5
  go_wp2_with fail
  refine (checks_ok p2 n2 cap2 F2 U2 V2 (by omega) Q2.out.1 _ L6.out).mono ?_
  rintro e1 w7 ⟨rfl, hb⟩
  have S7 := Lib.hid (S6.out.below hb S6.out.lt)
  have B7 := Lib.hid (B6.out.trans (hb.mono B6.out.size))
  have M7 := Lib.hid (M6.out.below hb)
  clear M6 L6
  clear hb S6 B6
  go_wp2_with fail
  refine (checks_ok p3 n3 cap3 F3 U3 V3 (by omega) Q3.out.1 _ M7.out).mono ?_
  rintro e1 w8 ⟨rfl, hb⟩
  have S8 := Lib.hid (S7.out.below hb S7.out.lt)
  have B8 := Lib.hid (B7.out.trans (hb.mono B7.out.size))
  clear hb S7 B7
  have s0 := S8.out.1; have s1 := S8.out.2
  go_wp2_with fail
  all_goals
    go_ret
    exact ⟨rfl, B8.out⟩

theorem keeps_law (p : Option Addr) (n cap : Nat) (F U V : Nat → Int) (a b v d : Int) (w : World) (hP : PcsAt w p n F U V) :
    Calls Try.prog 6 #[.slice p n cap, .agg #[.int .i64 a, .int .i64 b], .int .i64 v, .int .i64 d] w fun e w' => e = .returned (.bool true) ∧ Below w.heap.size w w' := by
  by_cases hn : n ≤ 40
  · rcases valid_or p n cap F U V a b with ⟨E, h0, C, _⟩ | ⟨hT, hs, C, _⟩
    · exact keeps_bad p n cap F U V a b v d E _ w hP hn rfl h0 C
    · rcases (show d < a ∨ b ≤ d ∨ (a ≤ d ∧ d < b) by omega) with h | h | h
      · exact keeps_before p n cap F U V a b v d w hP hn hT hs C h
      · exact keeps_behind p n cap F U V a b v d w hP hn hT hs C h
      · exact keeps_in p n cap F U V a b v d w hP hn hT hs C h
  · exact keeps_large p n cap a b v d w (by omega)

set_option maxRecDepth 100000 in
theorem keeps_lifted (os : Os) (started : os.Started) (H : Type) (enc : TypeId × Value → H) :
    ReturnsInHanded {} Try.checked os 6 .any (Rows.timelineKeepsSpec.pre6 enc Try.prog Try.f6 [] false) (Rows.timelineKeepsSpec.post enc Try.prog Try.f6 false true false false) := by
  refine returnsInHanded_of_change (C := Try.checked) own started (by kernel_rfl) Try.func6
    (ChangeSpec.witness6 (enc := enc) (C := Try.checked) false ⟨#[], #[.slice none 0 0, .agg #[.int .i64 0, .int .i64 0], .int .i64 0, .int .i64 0], []⟩ 8 (by kernel_rfl) (by kernel_rfl) (by kernel_rfl) (by kernel_rfl)) ?_
  intro W base args ds gs before hval0 hW _ _
  have hval : ∀ (j : Nat) t v, Try.f6.params[j]? = some t → args[j]? = some v → Value.okWide Try.prog W .any base t v := hval0
  have hW' := hW
  obtain ⟨p, q, hA0, hV, rfl, hfz, hnd⟩ := hW
  have hA : DataW.TrodAll enc Try.prog W 0 (fun _ => true) true Try.f6.params.toList args.toList ds p := hA0
  rw [Try.params6] at hA hval
  obtain ⟨v0, v1, v2, v3, d0, d1, d2, d3, p0, p1, p2, p3, rfl, rfl, rfl, h0, h1, h2, h3⟩ := trodAll_four hA
  obtain ⟨rfl, rfl⟩ := trodVars_none hV
  obtain ⟨A0, n0, c0, F0, U0, V0, rfl, HG0⟩ := open_pcs (hval 0 22 v0 rfl rfl) h0
  obtain ⟨a1, b1, rfl⟩ := open_span (hval 1 33 v1 rfl rfl) h1
  obtain ⟨x2, rfl, rfl, rfl, wx2⟩ := open_int Try.underlying3 (hval 2 3 v2 rfl rfl) h2
  obtain ⟨x3, rfl, rfl, rfl, wx3⟩ := open_int Try.underlying3 (hval 3 3 v3 rfl rfl) h3
  refine (keeps_law A0 n0 c0 F0 U0 V0 a1 b1 x2 x3 W HG0).mono fun e W' ⟨he, hb⟩ => ?_
  subst he
  exact ⟨_, rfl, post_true rfl rfl (by kernel_rfl) hW' rfl hb⟩

theorem keeps_said : Rows.TimelineKeepsSaid :=
  OpenClaim.holds_of_wide 6 Try.f6 rfl rfl rfl rfl rfl rfl rfl ⟨rfl, rfl, rfl, rfl, rfl⟩ rfl rfl rfl rfl rfl (by kernel_rfl) Try.func6 (by kernel_rfl)
    (of_decide_eq_true (by kernel_rfl)) (by unfold Func.isWrapper; first | (rw [if_pos (by decide +kernel)]; kernel_rfl) | (rw [if_neg (by decide +kernel)]; exact ⟨rfl, rfl⟩))
    (fun os started H enc _ => keeps_lifted os started H enc)
#print axioms keeps_said

end Go.Proofs.Ytcgjhbjbfdbfaaa
