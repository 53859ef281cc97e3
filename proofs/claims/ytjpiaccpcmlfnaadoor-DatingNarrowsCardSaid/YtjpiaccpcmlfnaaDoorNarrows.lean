/-
  PROVED HERE: the law archivumlaw03.DatingNarrows answers true for every three datings: a dating that is contained in another one keeps its certain and impossible relations to a third one, on both sides. Condition: the package variable archivum/day.lengths holds what the program's text lays in it (the card ties that). Every input is spoken of.
-/
import Derived.Test.YtjpiaccpcmlfnaaDoorRelates
namespace Go.Proofs.YtjpiaccpcmlfnaaDoor
open Go.ChangeShapes Go.WideShapes Go.ChangeAt Go.RowKit Go.Joins Cal

theorem box_third (w : World) (a b c d e f : Int) : Box (((w.alloc (.cells #[.int .i64 a, .int .i64 b] 23)).alloc (.cells #[.int .i64 c, .int .i64 d] 23)).alloc (.cells #[.int .i64 e, .int .i64 f] 23)) (w.heap.size + 1 + 1) e f := by
  have h := Box.new ((w.alloc (.cells #[.int .i64 a, .int .i64 b] 23)).alloc (.cells #[.int .i64 c, .int .i64 d] 23)) e f
  rw [World.size_alloc, World.size_alloc] at h
  exact h

/-- What a part of a dating says of another one is what the dating says, if that is certain or impossible. -/
theorem nar_bef {p q r s x y : Int} (h : okD p q ∧ okD r s) (g : okD x y) (k1 : p ≤ x) (k2 : y ≤ q) : befV p q r s = 1 ∨ befV x y r s = befV p q r s := by
  have g' : okD x y ∧ okD r s := ⟨g, h.2⟩
  by_cases a : q < r
  · rw [befV_2 h a, befV_2 g' (by omega)]; exact Or.inr rfl
  · by_cases b : s ≤ p
    · rw [befV_0 h a b, befV_0 g' (by omega) (by omega)]; exact Or.inr rfl
    · exact Or.inl (befV_1 h a b)
theorem nar_aft {p q r s x y : Int} (h : okD p q ∧ okD r s) (g : okD x y) (k1 : p ≤ x) (k2 : y ≤ q) : befV r s p q = 1 ∨ befV r s x y = befV r s p q := by
  have h' : okD r s ∧ okD p q := ⟨h.2, h.1⟩
  have g' : okD r s ∧ okD x y := ⟨h.2, g⟩
  by_cases a : s < p
  · rw [befV_2 h' a, befV_2 g' (by omega)]; exact Or.inr rfl
  · by_cases b : q ≤ r
    · rw [befV_0 h' a b, befV_0 g' (by omega) (by omega)]; exact Or.inr rfl
    · exact Or.inl (befV_1 h' a b)
theorem samV_0 {a b c d : Int} (h : okD a b ∧ okD c d) (k : b < c ∨ d < a) : samV a b c d = 0 := (if_pos h).trans (if_pos k)
theorem samV_2 {a b c d : Int} (h : okD a b ∧ okD c d) (k : ¬ (b < c ∨ d < a)) (j : a = c ∧ b = d ∧ a = b) : samV a b c d = 2 := (if_pos h).trans ((if_neg k).trans (if_pos j))
theorem samV_1 {a b c d : Int} (h : okD a b ∧ okD c d) (k : ¬ (b < c ∨ d < a)) (j : ¬ (a = c ∧ b = d ∧ a = b)) : samV a b c d = 1 := (if_pos h).trans ((if_neg k).trans (if_neg j))
theorem nar_sam {p q r s x y : Int} (h : okD p q ∧ okD r s) (g : okD x y) (k1 : p ≤ x) (k2 : y ≤ q) : samV p q r s = 1 ∨ samV x y r s = samV p q r s := by
  have g' : okD x y ∧ okD r s := ⟨g, h.2⟩
  by_cases a : q < r ∨ s < p
  · rw [samV_0 h a, samV_0 g' (by omega)]; exact Or.inr rfl
  · by_cases b : p = r ∧ q = s ∧ p = q
    · rw [samV_2 h a b, samV_2 g' (by omega) (by omega)]; exact Or.inr rfl
    · exact Or.inl (samV_1 h a b)

set_option maxRecDepth 100000 in
set_option maxHeartbeats 8000000 in
theorem nar_nomeet (p q r s u v : Int) (w : World) (hT : Table w) (h : meetB p q u v = false) :
    Calls Tryd.prog 7 #[.agg #[.int .i64 p, .int .i64 q], .agg #[.int .i64 r, .int .i64 s], .agg #[.int .i64 u, .int .i64 v]] w fun e w' => e = .returned (.bool true) ∧ Below w.heap.size w w' := by
  have HT := Lib.hid hT
  have hlt := hT.lt
  clear hT
  have H := Lib.hid h
  clear h
  go_enter Tryd.func7, Tryd.ntmps7
  go_wp2_with fail
  refine (awake_true _ (HT.out.below (by go_grown))).mono ?_
  rintro e w1 ⟨rfl, hb⟩
  have B1 : Hid (Below w.heap.size w w1) := Below.trans (b := ((w.alloc (.cells #[.int .i64 p, .int .i64 q] 23)).alloc (.cells #[.int .i64 r, .int .i64 s] 23)).alloc (.cells #[.int .i64 u, .int .i64 v] 23)) (by go_grown) (hb.mono (by simp; omega))
  have X1 := Lib.hid ((((Box.new w p q).alloc (.cells #[.int .i64 r, .int .i64 s] 23)).alloc (.cells #[.int .i64 u, .int .i64 v] 23)).next hb)
  have Y1 := Lib.hid (((box_second w p q r s).alloc (.cells #[.int .i64 u, .int .i64 v] 23)).next hb)
  have Z1 := Lib.hid ((box_third w p q r s u v).next hb)
  clear hb
  have a0 := X1.out.c0; have a1 := X1.out.c1; have b0 := Y1.out.c0; have b1 := Y1.out.c1; have c0 := Z1.out.c0; have c1 := Z1.out.c1
  go_wp2_with fail
  refine (Meet_any _ _ _ _ _).mono ?_
  rintro e w2 ⟨rfl, hb⟩
  have B2 := Lib.hid (B1.out.trans (hb.mono B1.out.size)); have X2 := Lib.hid (X1.out.next hb); have Y2 := Lib.hid (Y1.out.next hb); have Z2 := Lib.hid (Z1.out.next hb)
  clear hb a0 a1 b0 b1 c0 c1
  rw [H.out]
  go_wp2
  go_ret
  have z := B2.out.size
  exact ⟨rfl, B2.out.alloc z _⟩

set_option maxRecDepth 100000 in
set_option maxHeartbeats 8000000 in
theorem nar_bad (p q r s u v : Int) (w : World) (hT : Table w) (x y : Int) (h : meetB p q u v = true) (hx : meetF p q u v = x) (hy : meetL p q u v = y) (g : ¬ okD r s) :
    Calls Tryd.prog 7 #[.agg #[.int .i64 p, .int .i64 q], .agg #[.int .i64 r, .int .i64 s], .agg #[.int .i64 u, .int .i64 v]] w fun e w' => e = .returned (.bool true) ∧ Below w.heap.size w w' := by
  have HT := Lib.hid hT
  have hlt := hT.lt
  clear hT
  have H := Lib.hid h; have H1 := Lib.hid hx; have H2 := Lib.hid hy
  have e : (chk r s != 0) = true := by rw [chk_no g]; rfl
  clear h hx hy g
  go_enter Tryd.func7, Tryd.ntmps7
  go_wp2_with fail
  refine (awake_true _ (HT.out.below (by go_grown))).mono ?_
  rintro e w1 ⟨rfl, hb⟩
  have B1 : Hid (Below w.heap.size w w1) := Below.trans (b := ((w.alloc (.cells #[.int .i64 p, .int .i64 q] 23)).alloc (.cells #[.int .i64 r, .int .i64 s] 23)).alloc (.cells #[.int .i64 u, .int .i64 v] 23)) (by go_grown) (hb.mono (by simp; omega))
  have X1 := Lib.hid ((((Box.new w p q).alloc (.cells #[.int .i64 r, .int .i64 s] 23)).alloc (.cells #[.int .i64 u, .int .i64 v] 23)).next hb)
  have Y1 := Lib.hid (((box_second w p q r s).alloc (.cells #[.int .i64 u, .int .i64 v] 23)).next hb)
  have Z1 := Lib.hid ((box_third w p q r s u v).next hb)
  clear hb
  have a0 := X1.out.c0; have a1 := X1.out.c1; have b0 := Y1.out.c0; have b1 := Y1.out.c1; have c0 := Z1.out.c0; have c1 := Z1.out.c1
  go_wp2_with fail
  refine (Meet_any _ _ _ _ _).mono ?_
  rintro e v1 ⟨rfl, hb0⟩
  rw [H.out, H1.out, H2.out]
  have hz := hb0.size
  obtain ⟨w2, hw2⟩ : ∃ V : World, v1.alloc (.cells #[.int .i64 x, .int .i64 y] 23) = V := ⟨_, rfl⟩
  have hb : Below w1.heap.size w1 w2 := by rw [← hw2]; exact hb0.alloc hz _
  have W2 : Hid (Box w2 v1.heap.size x y) := by rw [← hw2]; exact Box.new v1 x y
  have B2 := Lib.hid (B1.out.trans (hb.mono B1.out.size)); have X2 := Lib.hid (X1.out.next hb); have Y2 := Lib.hid (Y1.out.next hb); have Z2 := Lib.hid (Z1.out.next hb)
  clear hb hb0 a0 a1 b0 b1 c0 c1 hz
  have a0 := X2.out.c0; have a1 := X2.out.c1; have b0 := Y2.out.c0; have b1 := Y2.out.c1; have c0 := Z2.out.c0; have c1 := Z2.out.c1
  go_wp2_with fail
  refine (Check_any _ _ _).mono ?_
  rintro e w3 ⟨rfl, hb⟩
  have B3 := Lib.hid (B2.out.trans (hb.mono B2.out.size)); have X3 := Lib.hid (X2.out.next hb); have Y3 := Lib.hid (Y2.out.next hb); have Z3 := Lib.hid (Z2.out.next hb)
  clear hb a0 a1 b0 b1 c0 c1
  go_wp2
  go_ret
  exact ⟨rfl, B3.out⟩

set_option maxRecDepth 100000 in
set_option maxHeartbeats 8000000 in
theorem nar_good (p q r s u v : Int) (w : World) (hT : Table w) (x y : Int) (h : meetB p q u v = true) (hx : meetF p q u v = x) (hy : meetL p q u v = y) (h1 : okD p q) (g : okD r s) (g1 : okD x y) (k1 : p ≤ x) (k2 : y ≤ q) :
    Calls Tryd.prog 7 #[.agg #[.int .i64 p, .int .i64 q], .agg #[.int .i64 r, .int .i64 s], .agg #[.int .i64 u, .int .i64 v]] w fun e w' => e = .returned (.bool true) ∧ Below w.heap.size w w' := by
  have HT := Lib.hid hT
  have hlt := hT.lt
  clear hT
  have H := Lib.hid h; have H1 := Lib.hid hx; have H2 := Lib.hid hy
  have e : (chk r s != 0) = false := by rw [chk_yes g]; rfl
  have N1 := Lib.hid (nar_bef ⟨h1, g⟩ g1 k1 k2); have N2 := Lib.hid (nar_aft ⟨h1, g⟩ g1 k1 k2); have N3 := Lib.hid (nar_sam ⟨h1, g⟩ g1 k1 k2)
  have E1 := Lib.hid (relE_0 ⟨h1, g⟩); have E2 := Lib.hid (relE_0 ⟨g1, g⟩); have E3 := Lib.hid (relE_0 ⟨g, h1⟩); have E4 := Lib.hid (relE_0 ⟨g, g1⟩)
  clear h hx hy g h1 g1 k1 k2
  go_enter Tryd.func7, Tryd.ntmps7
  go_wp2_with fail
  refine (awake_true _ (HT.out.below (by go_grown))).mono ?_
  rintro e w1 ⟨rfl, hb⟩
  have B1 : Hid (Below w.heap.size w w1) := Below.trans (b := ((w.alloc (.cells #[.int .i64 p, .int .i64 q] 23)).alloc (.cells #[.int .i64 r, .int .i64 s] 23)).alloc (.cells #[.int .i64 u, .int .i64 v] 23)) (by go_grown) (hb.mono (by simp; omega))
  have X1 := Lib.hid ((((Box.new w p q).alloc (.cells #[.int .i64 r, .int .i64 s] 23)).alloc (.cells #[.int .i64 u, .int .i64 v] 23)).next hb)
  have Y1 := Lib.hid (((box_second w p q r s).alloc (.cells #[.int .i64 u, .int .i64 v] 23)).next hb)
  have Z1 := Lib.hid ((box_third w p q r s u v).next hb)
  clear hb
  have a0 := X1.out.c0; have a1 := X1.out.c1; have b0 := Y1.out.c0; have b1 := Y1.out.c1; have c0 := Z1.out.c0; have c1 := Z1.out.c1
  go_wp2_with fail
  refine (Meet_any _ _ _ _ _).mono ?_
  rintro e v1 ⟨rfl, hb0⟩
  rw [H.out, H1.out, H2.out]
  have hz := hb0.size
  obtain ⟨w2, hw2⟩ : ∃ V : World, v1.alloc (.cells #[.int .i64 x, .int .i64 y] 23) = V := ⟨_, rfl⟩
  have hb : Below w1.heap.size w1 w2 := by rw [← hw2]; exact hb0.alloc hz _
  have W2 : Hid (Box w2 v1.heap.size x y) := by rw [← hw2]; exact Box.new v1 x y
  have B2 := Lib.hid (B1.out.trans (hb.mono B1.out.size)); have X2 := Lib.hid (X1.out.next hb); have Y2 := Lib.hid (Y1.out.next hb); have Z2 := Lib.hid (Z1.out.next hb)
  clear hb hb0 a0 a1 b0 b1 c0 c1 hz
  have a0 := X2.out.c0; have a1 := X2.out.c1; have b0 := Y2.out.c0; have b1 := Y2.out.c1; have c0 := Z2.out.c0; have c1 := Z2.out.c1; have d0 := W2.out.c0; have d1 := W2.out.c1
  go_wp2_with fail
  try rw [hw2]
  refine (Check_any _ _ _).mono ?_
  rintro e w3 ⟨rfl, hb⟩
  have B3 := Lib.hid (B2.out.trans (hb.mono B2.out.size)); have X3 := Lib.hid (X2.out.next hb); have Y3 := Lib.hid (Y2.out.next hb); have Z3 := Lib.hid (Z2.out.next hb)
  have W3 := Lib.hid (W2.out.next hb)
  clear hb a0 a1 b0 b1 c0 c1 d0 d1
  clear hw2
  have a0 := X3.out.c0; have a1 := X3.out.c1; have b0 := Y3.out.c0; have b1 := Y3.out.c1; have c0 := Z3.out.c0; have c1 := Z3.out.c1; have d0 := W3.out.c0; have d1 := W3.out.c1
  go_wp2_with fail
  refine (Before_any _ _ _ _ _).mono ?_
  rintro e w4 ⟨rfl, hb⟩
  have B4 := Lib.hid (B3.out.trans (hb.mono B3.out.size)); have X4 := Lib.hid (X3.out.next hb); have Y4 := Lib.hid (Y3.out.next hb); have Z4 := Lib.hid (Z3.out.next hb)
  have W4 := Lib.hid (W3.out.next hb)
  clear hb a0 a1 b0 b1 c0 c1 d0 d1
  rw [E1.out]
  have a0 := X4.out.c0; have a1 := X4.out.c1; have b0 := Y4.out.c0; have b1 := Y4.out.c1; have c0 := Z4.out.c0; have c1 := Z4.out.c1; have d0 := W4.out.c0; have d1 := W4.out.c1
  go_wp2_with fail
  refine (Before_any _ _ _ _ _).mono ?_
  rintro e w5 ⟨rfl, hb⟩
  have B5 := Lib.hid (B4.out.trans (hb.mono B4.out.size)); have X5 := Lib.hid (X4.out.next hb); have Y5 := Lib.hid (Y4.out.next hb); have Z5 := Lib.hid (Z4.out.next hb)
  have W5 := Lib.hid (W4.out.next hb)
  clear hb a0 a1 b0 b1 c0 c1 d0 d1
  rw [E2.out]
  have a0 := X5.out.c0; have a1 := X5.out.c1; have b0 := Y5.out.c0; have b1 := Y5.out.c1; have c0 := Z5.out.c0; have c1 := Z5.out.c1; have d0 := W5.out.c0; have d1 := W5.out.c1
  go_wp2_with fail
  refine (Before_any _ _ _ _ _).mono ?_
  rintro e w6 ⟨rfl, hb⟩
  have B6 := Lib.hid (B5.out.trans (hb.mono B5.out.size)); have X6 := Lib.hid (X5.out.next hb); have Y6 := Lib.hid (Y5.out.next hb); have Z6 := Lib.hid (Z5.out.next hb)
  have W6 := Lib.hid (W5.out.next hb)
  clear hb a0 a1 b0 b1 c0 c1 d0 d1
  rw [E3.out]
  have a0 := X6.out.c0; have a1 := X6.out.c1; have b0 := Y6.out.c0; have b1 := Y6.out.c1; have c0 := Z6.out.c0; have c1 := Z6.out.c1; have d0 := W6.out.c0; have d1 := W6.out.c1
  go_wp2_with fail
  refine (Before_any _ _ _ _ _).mono ?_
  rintro e w7 ⟨rfl, hb⟩
  have B7 := Lib.hid (B6.out.trans (hb.mono B6.out.size)); have X7 := Lib.hid (X6.out.next hb); have Y7 := Lib.hid (Y6.out.next hb); have Z7 := Lib.hid (Z6.out.next hb)
  have W7 := Lib.hid (W6.out.next hb)
  clear hb a0 a1 b0 b1 c0 c1 d0 d1
  rw [E4.out]
  have a0 := X7.out.c0; have a1 := X7.out.c1; have b0 := Y7.out.c0; have b1 := Y7.out.c1; have c0 := Z7.out.c0; have c1 := Z7.out.c1; have d0 := W7.out.c0; have d1 := W7.out.c1
  go_wp2_with fail
  refine (Same_any _ _ _ _ _).mono ?_
  rintro e w8 ⟨rfl, hb⟩
  have B8 := Lib.hid (B7.out.trans (hb.mono B7.out.size)); have X8 := Lib.hid (X7.out.next hb); have Y8 := Lib.hid (Y7.out.next hb); have Z8 := Lib.hid (Z7.out.next hb)
  have W8 := Lib.hid (W7.out.next hb)
  clear hb a0 a1 b0 b1 c0 c1 d0 d1
  rw [E1.out]
  have a0 := X8.out.c0; have a1 := X8.out.c1; have b0 := Y8.out.c0; have b1 := Y8.out.c1; have c0 := Z8.out.c0; have c1 := Z8.out.c1; have d0 := W8.out.c0; have d1 := W8.out.c1
  go_wp2_with fail
  refine (Same_any _ _ _ _ _).mono ?_
  rintro e w9 ⟨rfl, hb⟩
  have B9 := Lib.hid (B8.out.trans (hb.mono B8.out.size)); have X9 := Lib.hid (X8.out.next hb); have Y9 := Lib.hid (Y8.out.next hb); have Z9 := Lib.hid (Z8.out.next hb)
  have W9 := Lib.hid (W8.out.next hb)
  clear hb a0 a1 b0 b1 c0 c1 d0 d1
  rw [E2.out]
  obtain ⟨n, hn⟩ : ∃ n, n = befV p q r s := ⟨_, rfl⟩
  obtain ⟨m, hm⟩ : ∃ n, n = befV x y r s := ⟨_, rfl⟩
  obtain ⟨n', hn'⟩ : ∃ n, n = befV r s p q := ⟨_, rfl⟩
  obtain ⟨m', hm'⟩ : ∃ n, n = befV r s x y := ⟨_, rfl⟩
  obtain ⟨k, hk⟩ : ∃ n, n = samV p q r s := ⟨_, rfl⟩
  obtain ⟨j, hj⟩ : ∃ n, n = samV x y r s := ⟨_, rfl⟩
  have M1 := N1.out; have M2 := N2.out; have M3 := N3.out
  rw [← hn, ← hm] at M1
  rw [← hn', ← hm'] at M2
  rw [← hk, ← hj] at M3
  rw [← hn, ← hm, ← hn', ← hm', ← hk, ← hj]
  clear hn hm hn' hm' hk hj N1 N2 N3
  have q1 : (n == 1) = true ∨ ((n == 1) = false ∧ (m == n) = true) := by
    by_cases z : n = 1
    · exact Or.inl (bool_eq z)
    · exact Or.inr ⟨bool_ne z, bool_eq (M1.resolve_left z)⟩
  have q2 : (n' == 1) = true ∨ ((n' == 1) = false ∧ (m' == n') = true) := by
    by_cases z : n' = 1
    · exact Or.inl (bool_eq z)
    · exact Or.inr ⟨bool_ne z, bool_eq (M2.resolve_left z)⟩
  have q3 : (k == 1) = true ∨ ((k == 1) = false ∧ (j == k) = true) := by
    by_cases z : k = 1
    · exact Or.inl (bool_eq z)
    · exact Or.inr ⟨bool_ne z, bool_eq (M3.resolve_left z)⟩
  clear M1 M2 M3
  rcases q1 with q1 | ⟨q1, q1'⟩ <;> rcases q2 with q2 | ⟨q2, q2'⟩ <;> rcases q3 with q3 | ⟨q3, q3'⟩
  all_goals
    go_wp2
    go_ret
    exact ⟨rfl, B9.out⟩

theorem narrows_any (p q r s u v : Int) (w : World) (hT : Table w) :
    Calls Tryd.prog 7 #[.agg #[.int .i64 p, .int .i64 q], .agg #[.int .i64 r, .int .i64 s], .agg #[.int .i64 u, .int .i64 v]] w fun e w' => e = .returned (.bool true) ∧ Below w.heap.size w w' := by
  cases h : meetB p q u v
  · exact nar_nomeet p q r s u v w hT h
  by_cases g : okD r s
  case neg => exact nar_bad p q r s u v w hT _ _ h rfl rfl g
  have k : okD p q ∧ okD u v ∧ mx p u ≤ mn q v := of_decide_eq_true h
  have e1 : meetF p q u v = mx p u := if_pos k
  have e2 : meetL p q u v = mn q v := if_pos k
  obtain ⟨⟨a1, a2, a3⟩, ⟨b1, b2, b3⟩, k3⟩ := k
  have m1 : p ≤ mx p u := by unfold mx; split <;> omega
  have m2 : mn q v ≤ q := by unfold mn; split <;> omega
  exact nar_good p q r s u v w hT _ _ h e1 e2 ⟨a1, a2, a3⟩ g ⟨by omega, k3, by omega⟩ m1 m2

set_option maxRecDepth 100000 in
theorem narrows_lifted (os : Os) (started : os.Started) (H : Type) (enc : TypeId × Value → H) :
    ReturnsInHanded {} Tryd.checked os 7 .any (fun w args => (Rows.datingNarrowsSpec.pre enc Tryd.prog Tryd.f7 [] false w args ∧ laidMetH Tryd.prog laid1 w) ∧ sizedMet enc Tryd.prog Tryd.f7 (OpenSpec.ofChange Rows.datingNarrowsSpec) false w args)
      (Rows.datingNarrowsSpec.post enc Tryd.prog Tryd.f7 false true false false) := by
  refine returnsInHanded_of_change_and (C := Tryd.checked) (X := fun w _ => laidMetH Tryd.prog laid1 w) (fun _ _ _ hh h => h.of_heap hh) own started (by kernel_rfl) Tryd.func7
    (ChangeSpec.witness_shaped (enc := enc) (C := Tryd.checked) (os := os) (X := fun w _ => laidMetH Tryd.prog laid1 w) false (World.doorLaid Tryd.prog 400 os) #[.agg #[.int .i64 0, .int .i64 0], .agg #[.int .i64 0, .int .i64 0], .agg #[.int .i64 0, .int .i64 0]] 8 rfl (World.shaped_of_RefB (by kernel_rfl) (by kernel_rfl)) (by kernel_rfl) (by kernel_rfl) (by kernel_rfl) (door_met os _)) ?_
  intro W base args ds gs before hval0 hW _ _ hL _
  have hval : ∀ (j : Nat) t v, Tryd.f7.params[j]? = some t → args[j]? = some v → Value.okWide Tryd.prog W .any base t v := hval0
  have hW' := hW
  obtain ⟨p, q, hA0, hV, rfl, hfz, hnd⟩ := hW
  have hA : DataW.TrodAll enc Tryd.prog W 0 (fun _ => true) true Tryd.f7.params.toList args.toList ds p := hA0
  rw [Tryd.params7] at hA hval
  obtain ⟨v0, v1, v2, d0, d1, d2, p0, p1, p2, rfl, rfl, rfl, h0, h1, h2⟩ := trodAll_three hA
  obtain ⟨rfl, rfl⟩ := trodVars_none hV
  obtain ⟨a0, b0, rfl⟩ := open_dat (hval 0 23 v0 rfl rfl) h0
  obtain ⟨a1, b1, rfl⟩ := open_dat (hval 1 23 v1 rfl rfl) h1
  obtain ⟨a2, b2, rfl⟩ := open_dat (hval 2 23 v2 rfl rfl) h2
  refine (narrows_any a0 b0 a1 b1 a2 b2 W (table_of_laid hL)).mono fun e W' ⟨he, hb⟩ => ?_
  subst he
  exact ⟨_, rfl, post_true rfl rfl (by kernel_rfl) hW' rfl hb⟩

theorem narrows_said : Rows.DatingNarrowsSaid :=
  OpenClaim.holds_of_wide 7 Tryd.f7 rfl rfl rfl rfl rfl rfl rfl ⟨rfl, rfl, rfl, rfl, rfl⟩ rfl rfl rfl rfl rfl (by kernel_rfl) Tryd.func7 (by kernel_rfl)
    (of_decide_eq_true (by kernel_rfl)) (by unfold Func.isWrapper; first | (rw [if_pos (by decide +kernel)]; kernel_rfl) | (rw [if_neg (by decide +kernel)]; exact ⟨rfl, rfl⟩))
    (fun os started H enc _ => narrows_lifted os started H enc)

theorem narrows_holds : Rows.DatingNarrowsCardSaid :=
  Claim7.holds_tied_plain_at .later [] [.data] true (true, "8d303af702edcfadd9ccb66646380e9714c2ac817b63d28ef925ba83bf977c3d") false
    narrows_said (fun _ h => by cases h) (by kernel_rfl) (fun _ h => by cases h) datingNarrows_row_tie rfl ⟨rfl, rfl⟩ (by kernel_rfl) rfl
    (fun f fn hf hfn => by
      obtain rfl : f = 7 := Option.some.inj ((show Tryd.prog.funcNamed "archivum/archivumlaw03.DatingNarrows" = some 7 by kernel_rfl).symm.trans hf) |>.symm
      obtain rfl : fn = Tryd.f7 := (Option.some.inj (Tryd.func7.symm.trans hfn)).symm
      exact ⟨by kernel_rfl, fun j t ht => by
        rw [Tryd.params7] at ht
        have hm : t ∈ [23, 23, 23] := by simpa using Array.mem_of_getElem? ht
        have hall : ([23, 23, 23].all fun u => !Tryd.prog.wantsStandIn u) = true := by kernel_rfl
        exact (show Tryd.prog.wantsStandIn t = false by simpa using List.all_eq_true.1 hall t hm)⟩)
    (by kernel_rfl)
#print axioms narrows_holds
end Go.Proofs.YtjpiaccpcmlfnaaDoor
