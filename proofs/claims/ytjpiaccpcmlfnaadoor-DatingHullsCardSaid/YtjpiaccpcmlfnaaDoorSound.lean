/-
  PROVED HERE: the law archivumlaw03.DatingSound answers true for every two datings and numbers: what is certain holds for any days of two datings, what is impossible for none, and what is possible for some, but not for others. Condition: the package variable archivum/day.lengths holds what the program's text lays in it (the card ties that). Every input is spoken of.
-/
import Derived.Test.YtjpiaccpcmlfnaaDoorRelates
import Derived.BigQuiet
namespace Go.Proofs.YtjpiaccpcmlfnaaDoor
open Go.ChangeShapes Go.WideShapes Go.ChangeAt Go.RowKit Go.Joins Cal

theorem below_drewN {B : Nat} {a w : World} (h : Below B a w) (n : Nat) : Below B a (w.drewN n) := ⟨h.os, h.tape, h.output, h.size, h.block⟩
theorem Box.drewN {w : World} {k : Nat} {a b : Int} (h : Box w k a b) (n : Nat) : Box (w.drewN n) k a b := h
theorem rem_bd (x n : Int) (hn : 0 < n) : 0 ≤ x % n ∧ x % n < n :=
  ⟨Int.emod_nonneg _ (by omega), Int.emod_lt_of_pos _ hn⟩

set_option maxRecDepth 100000 in
set_option maxHeartbeats 8000000 in
theorem sound_bad1 (a b c d x y : Int) (w : World) (hT : Table w) (h : ¬ okD a b) :
    Calls Tryd.prog 6 #[.agg #[.int .i64 a, .int .i64 b], .agg #[.int .i64 c, .int .i64 d], .int .u32 x, .int .u32 y] w fun e w' => e = .returned (.bool true) ∧ Below w.heap.size w w' := by
  have HT := Lib.hid hT
  have hlt := hT.lt
  clear hT
  have e : (chk a b != 0) = true := by rw [chk_no h]; rfl
  clear h
  go_enter Tryd.func6, Tryd.ntmps6
  go_wp2_with fail
  refine (awake_true _ (HT.out.below (by go_grown))).mono ?_
  rintro e w1 ⟨rfl, hb⟩
  have B1 : Hid (Below w.heap.size w w1) := Below.trans (b := (w.alloc (.cells #[.int .i64 a, .int .i64 b] 23)).alloc (.cells #[.int .i64 c, .int .i64 d] 23)) (by go_grown) (hb.mono (by simp; omega))
  have X1 := Lib.hid (((Box.new w a b).alloc (.cells #[.int .i64 c, .int .i64 d] 23)).next hb)
  have Y1 := Lib.hid ((box_second w a b c d).next hb)
  clear hb
  have a0 := X1.out.c0; have a1 := X1.out.c1; have b0 := Y1.out.c0; have b1 := Y1.out.c1
  go_wp2_with fail
  refine (Check_any _ _ _).mono ?_
  rintro e w2 ⟨rfl, hb⟩
  have B2 := Lib.hid (B1.out.trans (hb.mono B1.out.size)); have X2 := Lib.hid (X1.out.next hb); have Y2 := Lib.hid (Y1.out.next hb)
  clear hb a0 a1 b0 b1
  have a0 := X2.out.c0; have a1 := X2.out.c1; have b0 := Y2.out.c0; have b1 := Y2.out.c1
  go_wp2
  go_ret
  exact ⟨rfl, B2.out⟩

set_option maxRecDepth 100000 in
set_option maxHeartbeats 8000000 in
theorem sound_bad2 (a b c d x y : Int) (w : World) (hT : Table w) (h : okD a b) (g : ¬ okD c d) :
    Calls Tryd.prog 6 #[.agg #[.int .i64 a, .int .i64 b], .agg #[.int .i64 c, .int .i64 d], .int .u32 x, .int .u32 y] w fun e w' => e = .returned (.bool true) ∧ Below w.heap.size w w' := by
  have HT := Lib.hid hT
  have hlt := hT.lt
  clear hT
  have e : (chk a b != 0) = false := by rw [chk_yes h]; rfl
  have e' : (chk c d != 0) = true := by rw [chk_no g]; rfl
  clear h g
  go_enter Tryd.func6, Tryd.ntmps6
  go_wp2_with fail
  refine (awake_true _ (HT.out.below (by go_grown))).mono ?_
  rintro e w1 ⟨rfl, hb⟩
  have B1 : Hid (Below w.heap.size w w1) := Below.trans (b := (w.alloc (.cells #[.int .i64 a, .int .i64 b] 23)).alloc (.cells #[.int .i64 c, .int .i64 d] 23)) (by go_grown) (hb.mono (by simp; omega))
  have X1 := Lib.hid (((Box.new w a b).alloc (.cells #[.int .i64 c, .int .i64 d] 23)).next hb)
  have Y1 := Lib.hid ((box_second w a b c d).next hb)
  clear hb
  have a0 := X1.out.c0; have a1 := X1.out.c1; have b0 := Y1.out.c0; have b1 := Y1.out.c1
  go_wp2_with fail
  refine (Check_any _ _ _).mono ?_
  rintro e w2 ⟨rfl, hb⟩
  have B2 := Lib.hid (B1.out.trans (hb.mono B1.out.size)); have X2 := Lib.hid (X1.out.next hb); have Y2 := Lib.hid (Y1.out.next hb)
  clear hb a0 a1 b0 b1
  have a0 := X2.out.c0; have a1 := X2.out.c1; have b0 := Y2.out.c0; have b1 := Y2.out.c1
  go_wp2_with fail
  refine (Check_any _ _ _).mono ?_
  rintro e w3 ⟨rfl, hb⟩
  have B3 := Lib.hid (B2.out.trans (hb.mono B2.out.size)); have X3 := Lib.hid (X2.out.next hb); have Y3 := Lib.hid (Y2.out.next hb)
  clear hb a0 a1 b0 b1
  have a0 := X3.out.c0; have a1 := X3.out.c1; have b0 := Y3.out.c0; have b1 := Y3.out.c1
  go_wp2
  go_ret
  exact ⟨rfl, B3.out⟩

set_option maxRecDepth 100000 in
set_option maxHeartbeats 8000000 in
theorem sound_20 (a b c d x y : Int) (w : World) (hT : Table w) (h : okD a b) (g : okD c d) (hx : 0 ≤ x) (hx2 : x ≤ 4294967295) (hy : 0 ≤ y) (hy2 : y ≤ 4294967295) (k : b < c) :
    Calls Tryd.prog 6 #[.agg #[.int .i64 a, .int .i64 b], .agg #[.int .i64 c, .int .i64 d], .int .u32 x, .int .u32 y] w fun e w' => e = .returned (.bool true) ∧ Below w.heap.size w w' := by
  have HT := Lib.hid hT
  have hlt := hT.lt
  clear hT
  have e : (chk a b != 0) = false := by rw [chk_yes h]; rfl
  have e' : (chk c d != 0) = false := by rw [chk_yes g]; rfl
  have r1 := rem_bd x (b - a + 1) (by omega)
  have r2 := rem_bd y (d - c + 1) (by omega)
  have n1 : ((b - a + 1) == 0) = false := bool_ne (by omega)
  have n2 : ((d - c + 1) == 0) = false := bool_ne (by omega)
  obtain ⟨h1, h2, h3⟩ := h
  obtain ⟨g1, g2, g3⟩ := g
  have qb : Hid (befV a b c d = 2) := befV_2 ⟨⟨h1, h2, h3⟩, ⟨g1, g2, g3⟩⟩ (by omega)
  have qs : Hid (samV a b c d = 0) := by show samV a b c d = 0; unfold samV; rw [if_pos ⟨⟨h1, h2, h3⟩, ⟨g1, g2, g3⟩⟩, if_pos (by omega)]
  have qe : Hid (relE a b c d = 0) := relE_0 ⟨⟨h1, h2, h3⟩, ⟨g1, g2, g3⟩⟩
  go_enter Tryd.func6, Tryd.ntmps6
  go_wp2_with fail
  refine (awake_true _ (HT.out.below (by go_grown))).mono ?_
  rintro e w1 ⟨rfl, hb⟩
  have B1 : Hid (Below w.heap.size w w1) := Below.trans (b := (w.alloc (.cells #[.int .i64 a, .int .i64 b] 23)).alloc (.cells #[.int .i64 c, .int .i64 d] 23)) (by go_grown) (hb.mono (by simp; omega))
  have X1 := Lib.hid (((Box.new w a b).alloc (.cells #[.int .i64 c, .int .i64 d] 23)).next hb)
  have Y1 := Lib.hid ((box_second w a b c d).next hb)
  clear hb
  have a0 := X1.out.c0; have a1 := X1.out.c1; have b0 := Y1.out.c0; have b1 := Y1.out.c1
  go_wp2_with fail
  refine (Check_any _ _ _).mono ?_
  rintro e w2 ⟨rfl, hb⟩
  have B2 := Lib.hid (B1.out.trans (hb.mono B1.out.size)); have X2 := Lib.hid (X1.out.next hb); have Y2 := Lib.hid (Y1.out.next hb)
  clear hb a0 a1 b0 b1
  have a0 := X2.out.c0; have a1 := X2.out.c1; have b0 := Y2.out.c0; have b1 := Y2.out.c1
  go_wp2_with fail
  refine (Check_any _ _ _).mono ?_
  rintro e w3 ⟨rfl, hb⟩
  have B3 := Lib.hid (B2.out.trans (hb.mono B2.out.size)); have X3 := Lib.hid (X2.out.next hb); have Y3 := Lib.hid (Y2.out.next hb)
  clear hb a0 a1 b0 b1
  have a0 := X3.out.c0; have a1 := X3.out.c1; have b0 := Y3.out.c0; have b1 := Y3.out.c1
  have z3 := X3.out.lt
  go_wp2_with fail
  go_quiet (fail)
  have B4 := Lib.hid (below_drewN B3.out nq); have X4 := Lib.hid (X3.out.drewN nq); have Y4 := Lib.hid (Y3.out.drewN nq)
  obtain ⟨w4, hw4⟩ : ∃ V, V = w3.drewN nq := ⟨_, rfl⟩
  rw [← hw4] at B4 X4 Y4 ⊢
  clear a0 a1 b0 b1 hw4 nq
  have a0 := X4.out.c0; have a1 := X4.out.c1; have b0 := Y4.out.c0; have b1 := Y4.out.c1
  go_wp2_with fail
  go_quiet (fail)
  have B5 := Lib.hid (below_drewN B4.out nq); have X5 := Lib.hid (X4.out.drewN nq); have Y5 := Lib.hid (Y4.out.drewN nq)
  obtain ⟨w5, hw5⟩ : ∃ V, V = w4.drewN nq := ⟨_, rfl⟩
  rw [← hw5] at B5 X5 Y5 ⊢
  clear a0 a1 b0 b1 hw5
  have a0 := X5.out.c0; have a1 := X5.out.c1; have b0 := Y5.out.c0; have b1 := Y5.out.c1
  go_wp2_with fail
  refine (Before_any _ _ _ _ _).mono ?_
  rintro e w6 ⟨rfl, hb⟩
  have B6 := Lib.hid (B5.out.trans (hb.mono B5.out.size)); have X6 := Lib.hid (X5.out.next hb); have Y6 := Lib.hid (Y5.out.next hb)
  clear hb a0 a1 b0 b1
  have a0 := X6.out.c0; have a1 := X6.out.c1; have b0 := Y6.out.c0; have b1 := Y6.out.c1
  rw [qb.out, qe.out]
  go_wp2_with fail
  refine (Same_any _ _ _ _ _).mono ?_
  rintro e w7 ⟨rfl, hb⟩
  have B7 := Lib.hid (B6.out.trans (hb.mono B6.out.size)); have X7 := Lib.hid (X6.out.next hb); have Y7 := Lib.hid (Y6.out.next hb)
  clear hb a0 a1 b0 b1
  have a0 := X7.out.c0; have a1 := X7.out.c1; have b0 := Y7.out.c0; have b1 := Y7.out.c1
  rw [qs.out, qe.out]
  have f1 : a + x % (b - a + 1) < c + y % (d - c + 1) := by omega
  have f2 : ((a + x % (b - a + 1)) == (c + y % (d - c + 1))) = false := bool_ne (by omega)
  go_wp2
  all_goals
    go_ret
    exact ⟨rfl, B7.out⟩

set_option maxRecDepth 100000 in
set_option maxHeartbeats 8000000 in
theorem sound_00 (a b c d x y : Int) (w : World) (hT : Table w) (h : okD a b) (g : okD c d) (hx : 0 ≤ x) (hx2 : x ≤ 4294967295) (hy : 0 ≤ y) (hy2 : y ≤ 4294967295) (k : d < a) :
    Calls Tryd.prog 6 #[.agg #[.int .i64 a, .int .i64 b], .agg #[.int .i64 c, .int .i64 d], .int .u32 x, .int .u32 y] w fun e w' => e = .returned (.bool true) ∧ Below w.heap.size w w' := by
  have HT := Lib.hid hT
  have hlt := hT.lt
  clear hT
  have e : (chk a b != 0) = false := by rw [chk_yes h]; rfl
  have e' : (chk c d != 0) = false := by rw [chk_yes g]; rfl
  have r1 := rem_bd x (b - a + 1) (by omega)
  have r2 := rem_bd y (d - c + 1) (by omega)
  have n1 : ((b - a + 1) == 0) = false := bool_ne (by omega)
  have n2 : ((d - c + 1) == 0) = false := bool_ne (by omega)
  obtain ⟨h1, h2, h3⟩ := h
  obtain ⟨g1, g2, g3⟩ := g
  have qb : Hid (befV a b c d = 0) := befV_0 ⟨⟨h1, h2, h3⟩, ⟨g1, g2, g3⟩⟩ (by omega) (by omega)
  have qs : Hid (samV a b c d = 0) := by show samV a b c d = 0; unfold samV; rw [if_pos ⟨⟨h1, h2, h3⟩, ⟨g1, g2, g3⟩⟩, if_pos (by omega)]
  have qe : Hid (relE a b c d = 0) := relE_0 ⟨⟨h1, h2, h3⟩, ⟨g1, g2, g3⟩⟩
  go_enter Tryd.func6, Tryd.ntmps6
  go_wp2_with fail
  refine (awake_true _ (HT.out.below (by go_grown))).mono ?_
  rintro e w1 ⟨rfl, hb⟩
  have B1 : Hid (Below w.heap.size w w1) := Below.trans (b := (w.alloc (.cells #[.int .i64 a, .int .i64 b] 23)).alloc (.cells #[.int .i64 c, .int .i64 d] 23)) (by go_grown) (hb.mono (by simp; omega))
  have X1 := Lib.hid (((Box.new w a b).alloc (.cells #[.int .i64 c, .int .i64 d] 23)).next hb)
  have Y1 := Lib.hid ((box_second w a b c d).next hb)
  clear hb
  have a0 := X1.out.c0; have a1 := X1.out.c1; have b0 := Y1.out.c0; have b1 := Y1.out.c1
  go_wp2_with fail
  refine (Check_any _ _ _).mono ?_
  rintro e w2 ⟨rfl, hb⟩
  have B2 := Lib.hid (B1.out.trans (hb.mono B1.out.size)); have X2 := Lib.hid (X1.out.next hb); have Y2 := Lib.hid (Y1.out.next hb)
  clear hb a0 a1 b0 b1
  have a0 := X2.out.c0; have a1 := X2.out.c1; have b0 := Y2.out.c0; have b1 := Y2.out.c1
  go_wp2_with fail
  refine (Check_any _ _ _).mono ?_
  rintro e w3 ⟨rfl, hb⟩
  have B3 := Lib.hid (B2.out.trans (hb.mono B2.out.size)); have X3 := Lib.hid (X2.out.next hb); have Y3 := Lib.hid (Y2.out.next hb)
  clear hb a0 a1 b0 b1
  have a0 := X3.out.c0; have a1 := X3.out.c1; have b0 := Y3.out.c0; have b1 := Y3.out.c1
  have z3 := X3.out.lt
  go_wp2_with fail
  go_quiet (fail)
  have B4 := Lib.hid (below_drewN B3.out nq); have X4 := Lib.hid (X3.out.drewN nq); have Y4 := Lib.hid (Y3.out.drewN nq)
  obtain ⟨w4, hw4⟩ : ∃ V, V = w3.drewN nq := ⟨_, rfl⟩
  rw [← hw4] at B4 X4 Y4 ⊢
  clear a0 a1 b0 b1 hw4 nq
  have a0 := X4.out.c0; have a1 := X4.out.c1; have b0 := Y4.out.c0; have b1 := Y4.out.c1
  go_wp2_with fail
  go_quiet (fail)
  have B5 := Lib.hid (below_drewN B4.out nq); have X5 := Lib.hid (X4.out.drewN nq); have Y5 := Lib.hid (Y4.out.drewN nq)
  obtain ⟨w5, hw5⟩ : ∃ V, V = w4.drewN nq := ⟨_, rfl⟩
  rw [← hw5] at B5 X5 Y5 ⊢
  clear a0 a1 b0 b1 hw5
  have a0 := X5.out.c0; have a1 := X5.out.c1; have b0 := Y5.out.c0; have b1 := Y5.out.c1
  go_wp2_with fail
  refine (Before_any _ _ _ _ _).mono ?_
  rintro e w6 ⟨rfl, hb⟩
  have B6 := Lib.hid (B5.out.trans (hb.mono B5.out.size)); have X6 := Lib.hid (X5.out.next hb); have Y6 := Lib.hid (Y5.out.next hb)
  clear hb a0 a1 b0 b1
  have a0 := X6.out.c0; have a1 := X6.out.c1; have b0 := Y6.out.c0; have b1 := Y6.out.c1
  rw [qb.out, qe.out]
  go_wp2_with fail
  refine (Same_any _ _ _ _ _).mono ?_
  rintro e w7 ⟨rfl, hb⟩
  have B7 := Lib.hid (B6.out.trans (hb.mono B6.out.size)); have X7 := Lib.hid (X6.out.next hb); have Y7 := Lib.hid (Y6.out.next hb)
  clear hb a0 a1 b0 b1
  have a0 := X7.out.c0; have a1 := X7.out.c1; have b0 := Y7.out.c0; have b1 := Y7.out.c1
  rw [qs.out, qe.out]
  have f1 : c + y % (d - c + 1) ≤ a + x % (b - a + 1) := by omega
  have f2 : ((a + x % (b - a + 1)) == (c + y % (d - c + 1))) = false := bool_ne (by omega)
  go_wp2
  all_goals
    go_ret
    exact ⟨rfl, B7.out⟩

set_option maxRecDepth 100000 in
set_option maxHeartbeats 8000000 in
theorem sound_02 (a b c d x y : Int) (w : World) (hT : Table w) (h : okD a b) (g : okD c d) (hx : 0 ≤ x) (hx2 : x ≤ 4294967295) (hy : 0 ≤ y) (hy2 : y ≤ 4294967295) (k1 : b ≤ a) (k2 : d ≤ c) (k3 : a ≤ c) (k4 : c ≤ a) :
    Calls Tryd.prog 6 #[.agg #[.int .i64 a, .int .i64 b], .agg #[.int .i64 c, .int .i64 d], .int .u32 x, .int .u32 y] w fun e w' => e = .returned (.bool true) ∧ Below w.heap.size w w' := by
  have HT := Lib.hid hT
  have hlt := hT.lt
  clear hT
  have e : (chk a b != 0) = false := by rw [chk_yes h]; rfl
  have e' : (chk c d != 0) = false := by rw [chk_yes g]; rfl
  have r1 := rem_bd x (b - a + 1) (by omega)
  have r2 := rem_bd y (d - c + 1) (by omega)
  have n1 : ((b - a + 1) == 0) = false := bool_ne (by omega)
  have n2 : ((d - c + 1) == 0) = false := bool_ne (by omega)
  obtain ⟨h1, h2, h3⟩ := h
  obtain ⟨g1, g2, g3⟩ := g
  have qb : Hid (befV a b c d = 0) := befV_0 ⟨⟨h1, h2, h3⟩, ⟨g1, g2, g3⟩⟩ (by omega) (by omega)
  have qs : Hid (samV a b c d = 2) := by show samV a b c d = 2; unfold samV; rw [if_pos ⟨⟨h1, h2, h3⟩, ⟨g1, g2, g3⟩⟩, if_neg (by omega), if_pos (by omega)]
  have qe : Hid (relE a b c d = 0) := relE_0 ⟨⟨h1, h2, h3⟩, ⟨g1, g2, g3⟩⟩
  go_enter Tryd.func6, Tryd.ntmps6
  go_wp2_with fail
  refine (awake_true _ (HT.out.below (by go_grown))).mono ?_
  rintro e w1 ⟨rfl, hb⟩
  have B1 : Hid (Below w.heap.size w w1) := Below.trans (b := (w.alloc (.cells #[.int .i64 a, .int .i64 b] 23)).alloc (.cells #[.int .i64 c, .int .i64 d] 23)) (by go_grown) (hb.mono (by simp; omega))
  have X1 := Lib.hid (((Box.new w a b).alloc (.cells #[.int .i64 c, .int .i64 d] 23)).next hb)
  have Y1 := Lib.hid ((box_second w a b c d).next hb)
  clear hb
  have a0 := X1.out.c0; have a1 := X1.out.c1; have b0 := Y1.out.c0; have b1 := Y1.out.c1
  go_wp2_with fail
  refine (Check_any _ _ _).mono ?_
  rintro e w2 ⟨rfl, hb⟩
  have B2 := Lib.hid (B1.out.trans (hb.mono B1.out.size)); have X2 := Lib.hid (X1.out.next hb); have Y2 := Lib.hid (Y1.out.next hb)
  clear hb a0 a1 b0 b1
  have a0 := X2.out.c0; have a1 := X2.out.c1; have b0 := Y2.out.c0; have b1 := Y2.out.c1
  go_wp2_with fail
  refine (Check_any _ _ _).mono ?_
  rintro e w3 ⟨rfl, hb⟩
  have B3 := Lib.hid (B2.out.trans (hb.mono B2.out.size)); have X3 := Lib.hid (X2.out.next hb); have Y3 := Lib.hid (Y2.out.next hb)
  clear hb a0 a1 b0 b1
  have a0 := X3.out.c0; have a1 := X3.out.c1; have b0 := Y3.out.c0; have b1 := Y3.out.c1
  have z3 := X3.out.lt
  go_wp2_with fail
  go_quiet (fail)
  have B4 := Lib.hid (below_drewN B3.out nq); have X4 := Lib.hid (X3.out.drewN nq); have Y4 := Lib.hid (Y3.out.drewN nq)
  obtain ⟨w4, hw4⟩ : ∃ V, V = w3.drewN nq := ⟨_, rfl⟩
  rw [← hw4] at B4 X4 Y4 ⊢
  clear a0 a1 b0 b1 hw4 nq
  have a0 := X4.out.c0; have a1 := X4.out.c1; have b0 := Y4.out.c0; have b1 := Y4.out.c1
  go_wp2_with fail
  go_quiet (fail)
  have B5 := Lib.hid (below_drewN B4.out nq); have X5 := Lib.hid (X4.out.drewN nq); have Y5 := Lib.hid (Y4.out.drewN nq)
  obtain ⟨w5, hw5⟩ : ∃ V, V = w4.drewN nq := ⟨_, rfl⟩
  rw [← hw5] at B5 X5 Y5 ⊢
  clear a0 a1 b0 b1 hw5
  have a0 := X5.out.c0; have a1 := X5.out.c1; have b0 := Y5.out.c0; have b1 := Y5.out.c1
  go_wp2_with fail
  refine (Before_any _ _ _ _ _).mono ?_
  rintro e w6 ⟨rfl, hb⟩
  have B6 := Lib.hid (B5.out.trans (hb.mono B5.out.size)); have X6 := Lib.hid (X5.out.next hb); have Y6 := Lib.hid (Y5.out.next hb)
  clear hb a0 a1 b0 b1
  have a0 := X6.out.c0; have a1 := X6.out.c1; have b0 := Y6.out.c0; have b1 := Y6.out.c1
  rw [qb.out, qe.out]
  go_wp2_with fail
  refine (Same_any _ _ _ _ _).mono ?_
  rintro e w7 ⟨rfl, hb⟩
  have B7 := Lib.hid (B6.out.trans (hb.mono B6.out.size)); have X7 := Lib.hid (X6.out.next hb); have Y7 := Lib.hid (Y6.out.next hb)
  clear hb a0 a1 b0 b1
  have a0 := X7.out.c0; have a1 := X7.out.c1; have b0 := Y7.out.c0; have b1 := Y7.out.c1
  rw [qs.out, qe.out]
  have f1 : c + y % (d - c + 1) ≤ a + x % (b - a + 1) := by omega
  have f2 : ((a + x % (b - a + 1)) != (c + y % (d - c + 1))) = false := by simp; omega
  go_wp2
  all_goals
    go_ret
    exact ⟨rfl, B7.out⟩

set_option maxRecDepth 100000 in
set_option maxHeartbeats 8000000 in
theorem sound_01 (a b c d x y : Int) (w : World) (hT : Table w) (h : okD a b) (g : okD c d) (hx : 0 ≤ x) (hx2 : x ≤ 4294967295) (hy : 0 ≤ y) (hy2 : y ≤ 4294967295) (k1 : d ≤ a) (k3 : a ≤ d) (k2 : Hid (¬ (a = c ∧ b = d ∧ a = b))) :
    Calls Tryd.prog 6 #[.agg #[.int .i64 a, .int .i64 b], .agg #[.int .i64 c, .int .i64 d], .int .u32 x, .int .u32 y] w fun e w' => e = .returned (.bool true) ∧ Below w.heap.size w w' := by
  have HT := Lib.hid hT
  have hlt := hT.lt
  clear hT
  have e : (chk a b != 0) = false := by rw [chk_yes h]; rfl
  have e' : (chk c d != 0) = false := by rw [chk_yes g]; rfl
  have r1 := rem_bd x (b - a + 1) (by omega)
  have r2 := rem_bd y (d - c + 1) (by omega)
  have n1 : ((b - a + 1) == 0) = false := bool_ne (by omega)
  have n2 : ((d - c + 1) == 0) = false := bool_ne (by omega)
  obtain ⟨h1, h2, h3⟩ := h
  obtain ⟨g1, g2, g3⟩ := g
  have qb : Hid (befV a b c d = 0) := befV_0 ⟨⟨h1, h2, h3⟩, ⟨g1, g2, g3⟩⟩ (by omega) (by omega)
  have qs : Hid (samV a b c d = 1) := by show samV a b c d = 1; unfold samV; rw [if_pos ⟨⟨h1, h2, h3⟩, ⟨g1, g2, g3⟩⟩, if_neg (by omega), if_neg (show ¬ (a = c ∧ b = d ∧ a = b) by exact k2.out)]
  have qe : Hid (relE a b c d = 0) := relE_0 ⟨⟨h1, h2, h3⟩, ⟨g1, g2, g3⟩⟩
  go_enter Tryd.func6, Tryd.ntmps6
  go_wp2_with fail
  refine (awake_true _ (HT.out.below (by go_grown))).mono ?_
  rintro e w1 ⟨rfl, hb⟩
  have B1 : Hid (Below w.heap.size w w1) := Below.trans (b := (w.alloc (.cells #[.int .i64 a, .int .i64 b] 23)).alloc (.cells #[.int .i64 c, .int .i64 d] 23)) (by go_grown) (hb.mono (by simp; omega))
  have X1 := Lib.hid (((Box.new w a b).alloc (.cells #[.int .i64 c, .int .i64 d] 23)).next hb)
  have Y1 := Lib.hid ((box_second w a b c d).next hb)
  clear hb
  have a0 := X1.out.c0; have a1 := X1.out.c1; have b0 := Y1.out.c0; have b1 := Y1.out.c1
  go_wp2_with fail
  refine (Check_any _ _ _).mono ?_
  rintro e w2 ⟨rfl, hb⟩
  have B2 := Lib.hid (B1.out.trans (hb.mono B1.out.size)); have X2 := Lib.hid (X1.out.next hb); have Y2 := Lib.hid (Y1.out.next hb)
  clear hb a0 a1 b0 b1
  have a0 := X2.out.c0; have a1 := X2.out.c1; have b0 := Y2.out.c0; have b1 := Y2.out.c1
  go_wp2_with fail
  refine (Check_any _ _ _).mono ?_
  rintro e w3 ⟨rfl, hb⟩
  have B3 := Lib.hid (B2.out.trans (hb.mono B2.out.size)); have X3 := Lib.hid (X2.out.next hb); have Y3 := Lib.hid (Y2.out.next hb)
  clear hb a0 a1 b0 b1
  have a0 := X3.out.c0; have a1 := X3.out.c1; have b0 := Y3.out.c0; have b1 := Y3.out.c1
  have z3 := X3.out.lt
  go_wp2_with fail
  go_quiet (fail)
  have B4 := Lib.hid (below_drewN B3.out nq); have X4 := Lib.hid (X3.out.drewN nq); have Y4 := Lib.hid (Y3.out.drewN nq)
  obtain ⟨w4, hw4⟩ : ∃ V, V = w3.drewN nq := ⟨_, rfl⟩
  rw [← hw4] at B4 X4 Y4 ⊢
  clear a0 a1 b0 b1 hw4 nq
  have a0 := X4.out.c0; have a1 := X4.out.c1; have b0 := Y4.out.c0; have b1 := Y4.out.c1
  go_wp2_with fail
  go_quiet (fail)
  have B5 := Lib.hid (below_drewN B4.out nq); have X5 := Lib.hid (X4.out.drewN nq); have Y5 := Lib.hid (Y4.out.drewN nq)
  obtain ⟨w5, hw5⟩ : ∃ V, V = w4.drewN nq := ⟨_, rfl⟩
  rw [← hw5] at B5 X5 Y5 ⊢
  clear a0 a1 b0 b1 hw5
  have a0 := X5.out.c0; have a1 := X5.out.c1; have b0 := Y5.out.c0; have b1 := Y5.out.c1
  go_wp2_with fail
  refine (Before_any _ _ _ _ _).mono ?_
  rintro e w6 ⟨rfl, hb⟩
  have B6 := Lib.hid (B5.out.trans (hb.mono B5.out.size)); have X6 := Lib.hid (X5.out.next hb); have Y6 := Lib.hid (Y5.out.next hb)
  clear hb a0 a1 b0 b1
  have a0 := X6.out.c0; have a1 := X6.out.c1; have b0 := Y6.out.c0; have b1 := Y6.out.c1
  rw [qb.out, qe.out]
  go_wp2_with fail
  refine (Same_any _ _ _ _ _).mono ?_
  rintro e w7 ⟨rfl, hb⟩
  have B7 := Lib.hid (B6.out.trans (hb.mono B6.out.size)); have X7 := Lib.hid (X6.out.next hb); have Y7 := Lib.hid (Y6.out.next hb)
  clear hb a0 a1 b0 b1
  have a0 := X7.out.c0; have a1 := X7.out.c1; have b0 := Y7.out.c0; have b1 := Y7.out.c1
  rw [qs.out, qe.out]
  have f1 : c + y % (d - c + 1) ≤ a + x % (b - a + 1) := by omega
  have f3 : a ≤ d := by omega
  have f4 : c ≤ b := by omega
  have hab : a ≠ b ∨ (a = b ∧ c ≠ d) := by
    rcases Classical.em (a = b) with h | h
    · exact Or.inr ⟨h, fun g => k2.out ⟨by omega, by omega, by omega⟩⟩
    · exact Or.inl h
  rcases hab with hab | ⟨hab, hcd⟩
  · have f5 : (a != b) = true := by simpa using hab
    clear hab
    go_wp2
    all_goals
      go_ret
      exact ⟨rfl, B7.out⟩
  · have f5 : (a != b) = false := by simpa using hab
    have f6 : (c != d) = true := by simpa using hcd
    clear hab hcd
    go_wp2
    all_goals
      go_ret
      exact ⟨rfl, B7.out⟩

set_option maxRecDepth 100000 in
set_option maxHeartbeats 8000000 in
theorem sound_11 (a b c d x y : Int) (w : World) (hT : Table w) (h : okD a b) (g : okD c d) (hx : 0 ≤ x) (hx2 : x ≤ 4294967295) (hy : 0 ≤ y) (hy2 : y ≤ 4294967295) (k1 : c ≤ b) (k2 : a < d) :
    Calls Tryd.prog 6 #[.agg #[.int .i64 a, .int .i64 b], .agg #[.int .i64 c, .int .i64 d], .int .u32 x, .int .u32 y] w fun e w' => e = .returned (.bool true) ∧ Below w.heap.size w w' := by
  have HT := Lib.hid hT
  have hlt := hT.lt
  clear hT
  have e : (chk a b != 0) = false := by rw [chk_yes h]; rfl
  have e' : (chk c d != 0) = false := by rw [chk_yes g]; rfl
  have r1 := rem_bd x (b - a + 1) (by omega)
  have r2 := rem_bd y (d - c + 1) (by omega)
  have n1 : ((b - a + 1) == 0) = false := bool_ne (by omega)
  have n2 : ((d - c + 1) == 0) = false := bool_ne (by omega)
  obtain ⟨h1, h2, h3⟩ := h
  obtain ⟨g1, g2, g3⟩ := g
  have qb : Hid (befV a b c d = 1) := befV_1 ⟨⟨h1, h2, h3⟩, ⟨g1, g2, g3⟩⟩ (by omega) (by omega)
  have qs : Hid (samV a b c d = 1) := by show samV a b c d = 1; unfold samV; rw [if_pos ⟨⟨h1, h2, h3⟩, ⟨g1, g2, g3⟩⟩, if_neg (by omega), if_neg (show ¬ (a = c ∧ b = d ∧ a = b) by omega)]
  have qe : Hid (relE a b c d = 0) := relE_0 ⟨⟨h1, h2, h3⟩, ⟨g1, g2, g3⟩⟩
  go_enter Tryd.func6, Tryd.ntmps6
  go_wp2_with fail
  refine (awake_true _ (HT.out.below (by go_grown))).mono ?_
  rintro e w1 ⟨rfl, hb⟩
  have B1 : Hid (Below w.heap.size w w1) := Below.trans (b := (w.alloc (.cells #[.int .i64 a, .int .i64 b] 23)).alloc (.cells #[.int .i64 c, .int .i64 d] 23)) (by go_grown) (hb.mono (by simp; omega))
  have X1 := Lib.hid (((Box.new w a b).alloc (.cells #[.int .i64 c, .int .i64 d] 23)).next hb)
  have Y1 := Lib.hid ((box_second w a b c d).next hb)
  clear hb
  have a0 := X1.out.c0; have a1 := X1.out.c1; have b0 := Y1.out.c0; have b1 := Y1.out.c1
  go_wp2_with fail
  refine (Check_any _ _ _).mono ?_
  rintro e w2 ⟨rfl, hb⟩
  have B2 := Lib.hid (B1.out.trans (hb.mono B1.out.size)); have X2 := Lib.hid (X1.out.next hb); have Y2 := Lib.hid (Y1.out.next hb)
  clear hb a0 a1 b0 b1
  have a0 := X2.out.c0; have a1 := X2.out.c1; have b0 := Y2.out.c0; have b1 := Y2.out.c1
  go_wp2_with fail
  refine (Check_any _ _ _).mono ?_
  rintro e w3 ⟨rfl, hb⟩
  have B3 := Lib.hid (B2.out.trans (hb.mono B2.out.size)); have X3 := Lib.hid (X2.out.next hb); have Y3 := Lib.hid (Y2.out.next hb)
  clear hb a0 a1 b0 b1
  have a0 := X3.out.c0; have a1 := X3.out.c1; have b0 := Y3.out.c0; have b1 := Y3.out.c1
  have z3 := X3.out.lt
  go_wp2_with fail
  go_quiet (fail)
  have B4 := Lib.hid (below_drewN B3.out nq); have X4 := Lib.hid (X3.out.drewN nq); have Y4 := Lib.hid (Y3.out.drewN nq)
  obtain ⟨w4, hw4⟩ : ∃ V, V = w3.drewN nq := ⟨_, rfl⟩
  rw [← hw4] at B4 X4 Y4 ⊢
  clear a0 a1 b0 b1 hw4 nq
  have a0 := X4.out.c0; have a1 := X4.out.c1; have b0 := Y4.out.c0; have b1 := Y4.out.c1
  go_wp2_with fail
  go_quiet (fail)
  have B5 := Lib.hid (below_drewN B4.out nq); have X5 := Lib.hid (X4.out.drewN nq); have Y5 := Lib.hid (Y4.out.drewN nq)
  obtain ⟨w5, hw5⟩ : ∃ V, V = w4.drewN nq := ⟨_, rfl⟩
  rw [← hw5] at B5 X5 Y5 ⊢
  clear a0 a1 b0 b1 hw5
  have a0 := X5.out.c0; have a1 := X5.out.c1; have b0 := Y5.out.c0; have b1 := Y5.out.c1
  go_wp2_with fail
  refine (Before_any _ _ _ _ _).mono ?_
  rintro e w6 ⟨rfl, hb⟩
  have B6 := Lib.hid (B5.out.trans (hb.mono B5.out.size)); have X6 := Lib.hid (X5.out.next hb); have Y6 := Lib.hid (Y5.out.next hb)
  clear hb a0 a1 b0 b1
  have a0 := X6.out.c0; have a1 := X6.out.c1; have b0 := Y6.out.c0; have b1 := Y6.out.c1
  rw [qb.out, qe.out]
  go_wp2_with fail
  refine (Same_any _ _ _ _ _).mono ?_
  rintro e w7 ⟨rfl, hb⟩
  have B7 := Lib.hid (B6.out.trans (hb.mono B6.out.size)); have X7 := Lib.hid (X6.out.next hb); have Y7 := Lib.hid (Y6.out.next hb)
  clear hb a0 a1 b0 b1
  have a0 := X7.out.c0; have a1 := X7.out.c1; have b0 := Y7.out.c0; have b1 := Y7.out.c1
  rw [qs.out, qe.out]
  have f3 : a ≤ d := by omega
  have f4 : c ≤ b := by omega
  have hab : a ≠ b ∨ (a = b ∧ c ≠ d) := by
    rcases Classical.em (a = b) with h | h
    · exact Or.inr ⟨h, fun g => by omega⟩
    · exact Or.inl h
  rcases hab with hab | ⟨hab, hcd⟩
  · have f5 : (a != b) = true := by simpa using hab
    clear hab
    go_wp2
    all_goals
      go_ret
      exact ⟨rfl, B7.out⟩
  · have f5 : (a != b) = false := by simpa using hab
    have f6 : (c != d) = true := by simpa using hcd
    clear hab hcd
    go_wp2
    all_goals
      go_ret
      exact ⟨rfl, B7.out⟩

theorem sound_any (a b c d x y : Int) (w : World) (hT : Table w) (hx : 0 ≤ x) (hx2 : x ≤ 4294967295) (hy : 0 ≤ y) (hy2 : y ≤ 4294967295) :
    Calls Tryd.prog 6 #[.agg #[.int .i64 a, .int .i64 b], .agg #[.int .i64 c, .int .i64 d], .int .u32 x, .int .u32 y] w fun e w' => e = .returned (.bool true) ∧ Below w.heap.size w w' := by
  by_cases h : okD a b
  case neg => exact sound_bad1 a b c d x y w hT h
  by_cases g : okD c d
  case neg => exact sound_bad2 a b c d x y w hT h g
  by_cases k : b < c
  · exact sound_20 a b c d x y w hT h g hx hx2 hy hy2 k
  by_cases k1 : d < a
  · exact sound_00 a b c d x y w hT h g hx hx2 hy hy2 k1
  by_cases k2 : a < d
  · exact sound_11 a b c d x y w hT h g hx hx2 hy hy2 (by omega) k2
  by_cases k3 : a = c ∧ b = d ∧ a = b
  · exact sound_02 a b c d x y w hT h g hx hx2 hy hy2 (by omega) (by omega) (by omega) (by omega)
  · exact sound_01 a b c d x y w hT h g hx hx2 hy hy2 (by omega) (by omega) k3

set_option maxRecDepth 100000 in
theorem sound_lifted (os : Os) (started : os.Started) (H : Type) (enc : TypeId × Value → H) :
    ReturnsInHanded {} Tryd.checked os 6 .any (fun w args => (Rows.datingSoundSpec.pre enc Tryd.prog Tryd.f6 [] false w args ∧ laidMetH Tryd.prog laid1 w) ∧ sizedMet enc Tryd.prog Tryd.f6 (OpenSpec.ofChange Rows.datingSoundSpec) false w args)
      (Rows.datingSoundSpec.post enc Tryd.prog Tryd.f6 false true false false) := by
  refine returnsInHanded_of_change_and (C := Tryd.checked) (X := fun w _ => laidMetH Tryd.prog laid1 w) (fun _ _ _ hh h => h.of_heap hh) own started (by kernel_rfl) Tryd.func6
    (ChangeSpec.witness_shaped (enc := enc) (C := Tryd.checked) (os := os) (X := fun w _ => laidMetH Tryd.prog laid1 w) false (World.doorLaid Tryd.prog 400 os) #[.agg #[.int .i64 0, .int .i64 0], .agg #[.int .i64 0, .int .i64 0], .int .u32 0, .int .u32 0] 8 rfl (World.shaped_of_RefB (by kernel_rfl) (by kernel_rfl)) (by kernel_rfl) (by kernel_rfl) (by kernel_rfl) (door_met os _)) ?_
  intro W base args ds gs before hval0 hW _ _ hL _
  have hval : ∀ (j : Nat) t v, Tryd.f6.params[j]? = some t → args[j]? = some v → Value.okWide Tryd.prog W .any base t v := hval0
  have hW' := hW
  obtain ⟨p, q, hA0, hV, rfl, hfz, hnd⟩ := hW
  have hA : DataW.TrodAll enc Tryd.prog W 0 (fun _ => true) true Tryd.f6.params.toList args.toList ds p := hA0
  rw [Tryd.params6] at hA hval
  obtain ⟨v0, v1, v2, v3, d0, d1, d2, d3, p0, p1, p2, p3, rfl, rfl, rfl, h0, h1, h2, h3⟩ := trodAll_four hA
  obtain ⟨rfl, rfl⟩ := trodVars_none hV
  obtain ⟨a0, b0, rfl⟩ := open_dat (hval 0 23 v0 rfl rfl) h0
  obtain ⟨a1, b1, rfl⟩ := open_dat (hval 1 23 v1 rfl rfl) h1
  obtain ⟨x2, rfl, rfl, rfl, wx2⟩ := open_int Tryd.underlying41 (hval 2 41 v2 rfl rfl) h2
  have bx2 := wx2; simp only [Lit.wf, Bool.and_eq_true, decide_eq_true_eq] at bx2
  obtain ⟨x3, rfl, rfl, rfl, wx3⟩ := open_int Tryd.underlying41 (hval 3 41 v3 rfl rfl) h3
  have bx3 := wx3; simp only [Lit.wf, Bool.and_eq_true, decide_eq_true_eq] at bx3
  refine (sound_any a0 b0 a1 b1 x2 x3 W (table_of_laid hL) bx2.1 bx2.2 bx3.1 bx3.2).mono fun e W' ⟨he, hb⟩ => ?_
  subst he
  exact ⟨_, rfl, post_true rfl rfl (by kernel_rfl) hW' rfl hb⟩

theorem sound_said : Rows.DatingSoundSaid :=
  OpenClaim.holds_of_wide 6 Tryd.f6 rfl rfl rfl rfl rfl rfl rfl ⟨rfl, rfl, rfl, rfl, rfl⟩ rfl rfl rfl rfl rfl (by kernel_rfl) Tryd.func6 (by kernel_rfl)
    (of_decide_eq_true (by kernel_rfl)) (by unfold Func.isWrapper; first | (rw [if_pos (by decide +kernel)]; kernel_rfl) | (rw [if_neg (by decide +kernel)]; exact ⟨rfl, rfl⟩))
    (fun os started H enc _ => sound_lifted os started H enc)

theorem sound_holds : Rows.DatingSoundCardSaid :=
  Claim7.holds_tied_plain_at .later [] [.data] true (true, "8d303af702edcfadd9ccb66646380e9714c2ac817b63d28ef925ba83bf977c3d") false
    sound_said (fun _ h => by cases h) (by kernel_rfl) (fun _ h => by cases h) datingSound_row_tie rfl ⟨rfl, rfl⟩ (by kernel_rfl) rfl
    (fun f fn hf hfn => by
      obtain rfl : f = 6 := Option.some.inj ((show Tryd.prog.funcNamed "archivum/archivumlaw03.DatingSound" = some 6 by kernel_rfl).symm.trans hf) |>.symm
      obtain rfl : fn = Tryd.f6 := (Option.some.inj (Tryd.func6.symm.trans hfn)).symm
      exact ⟨by kernel_rfl, fun j t ht => by
        rw [Tryd.params6] at ht
        have hm : t ∈ [23, 23, 41, 41] := by simpa using Array.mem_of_getElem? ht
        have hall : ([23, 23, 41, 41].all fun u => !Tryd.prog.wantsStandIn u) = true := by kernel_rfl
        exact (show Tryd.prog.wantsStandIn t = false by simpa using List.all_eq_true.1 hall t hm)⟩)
    (by kernel_rfl)
#print axioms sound_holds
end Go.Proofs.YtjpiaccpcmlfnaaDoor
