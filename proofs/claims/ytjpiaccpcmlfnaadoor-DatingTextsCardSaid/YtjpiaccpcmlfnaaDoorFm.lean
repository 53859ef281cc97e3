/-
  What Format answers. No statement of the seat is proved here.
-/
import Derived.Test.YtjpiaccpcmlfnaaDoorBeg
import Derived.Test.YtjpiaccpcmlfnaaDoorPm
import Derived.Deep.RegionWith
namespace Go.Proofs.YtjpiaccpcmlfnaaDoor
open Go.RowKit Cal
open Classical

/-- The text of a day. -/
noncomputable def dayS (n : Int) : ByteArray := epsilon fun s => ∃ y m d, IsDate n y m d ∧ s = strOfNums (txt y m d)
theorem dayS_is {n y m d : Int} (h : IsDate n y m d) : dayS n = strOfNums (txt y m d) := by
  have k : ∃ s : ByteArray, ∃ y m d, IsDate n y m d ∧ s = strOfNums (txt y m d) := ⟨_, y, m, d, h, rfl⟩
  obtain ⟨y', m', d', h', e⟩ := epsilon_spec k
  obtain ⟨rfl, rfl, rfl⟩ := date_unique h h'
  exact e
theorem beg_any (n : Int) (w : World) (hT : Table w) (h1 : 0 ≤ n) (h2 : n ≤ 1048575) :
    Calls Tryd.prog 35 #[.int .i64 n] w fun e w' => e = .returned (.string (begS (dayS n) n)) ∧ Below w.heap.size w w' := by
  obtain ⟨y, m, d, h⟩ := date_exists n h1 h2
  rw [dayS_is h]
  exact beginning_is n y m d w hT h1 h2 h (per_day h h2).2.1
theorem end_any (n : Int) (w : World) (hT : Table w) (h1 : 0 ≤ n) (h2 : n ≤ 1048575) :
    Calls Tryd.prog 36 #[.int .i64 n] w fun e w' => e = .returned (.string (endS (dayS n) n)) ∧ Below w.heap.size w w' := by
  obtain ⟨y, m, d, h⟩ := date_exists n h1 h2
  rw [dayS_is h]
  exact ending_is n y m d w hT h1 h2 h (per_day h h2).2.2
theorem arnd_any (n : Int) (w : World) (hT : Table w) (h1 : 0 ≤ n) (h2 : n ≤ 1048575) :
    Calls Tryd.prog 53 #[.int .i64 n] w fun e w' => e = .returned (.agg (arr9 (dayS n))) ∧ Below w.heap.size w w' := by
  obtain ⟨y, m, d, h⟩ := date_exists n h1 h2
  rw [dayS_is h]
  exact around_is n y m d w hT h1 h2 h

def unk : ByteArray := { data := #[117, 110, 107, 110, 111, 119, 110] }
def bef : ByteArray := { data := #[98, 101, 102, 111, 114, 101, 32] }
def aft : ByteArray := { data := #[97, 102, 116, 101, 114, 32] }
def sl : ByteArray := { data := #[47] }

theorem Format_bad (a b : Int) (w : World) (h : ¬ okD a b) :
    Calls Tryd.prog 24 #[.agg #[.int .i64 a, .int .i64 b]] w fun e w' => e = .returned (.tuple #[.string { data := #[] }, .int .i64 1]) ∧ Below w.heap.size w w' := by
  have hc : a < 0 ∨ (0 ≤ a ∧ b < a) ∨ (0 ≤ a ∧ a ≤ b ∧ 1048575 < b) := by omega
  clear h
  rcases hc with h1 | ⟨h1, h2⟩ | ⟨h1, h2, h3⟩
  all_goals
    go_enter Tryd.func24, Tryd.ntmps24
    go_wp2
    go_ret2
    exact ⟨rfl, by (repeat (first | with_reducible exact Below.refl _ _ | with_reducible assumption | refine Below.alloc ?_ (by first | exact Nat.le_refl _ | (simp; done) | (simp; omega)) _ | refine Below.setCell ?_ (by first | exact Nat.le_refl _ | (simp; done) | (simp; omega)) _))⟩

set_option maxHeartbeats 4000000 in
theorem Format_unk (w : World) :
    Calls Tryd.prog 24 #[.agg #[.int .i64 0, .int .i64 1048575]] w fun e w' => e = .returned (.tuple #[.string unk, .int .i64 0]) ∧ Below w.heap.size w w' := by
  go_enter Tryd.func24, Tryd.ntmps24
  go_wp2
  go_region_calls
  all_goals
    go_wp2
    go_ret2
    exact ⟨rfl, by go_grown⟩

theorem fmt1_any (F L a b : Int) (k : Nat) (w : World) (c0 : w.cell? ⟨k, 0, none⟩ = some (.int .i64 a)) (c1 : w.cell? ⟨k, 1, none⟩ = some (.int .i64 b)) :
    Calls Tryd.prog 33 #[.agg #[.int .i64 F, .int .i64 L], .pointer (some ⟨k, 0, none⟩)] w fun e w' => e = .returned (.bool (decide (F = a ∧ L = b))) ∧ Below w.heap.size w w' := by
  have z : k < w.heap.size := World.block_lt_of_cell? w ⟨k, 0, none⟩ c0
  by_cases h1 : F = a
  · have e1 : (F == a) = true := bool_eq h1
    by_cases h2 : L = b
    · have e2 : (L == b) = true := bool_eq h2
      rw [decide_eq_true ⟨h1, h2⟩]
      clear h1 h2
      go_enter Tryd.func33, Tryd.ntmps33
      go_wp2
      go_ret
      exact ⟨rfl, by go_grown⟩
    · have e2 : (L == b) = false := bool_ne h2
      rw [decide_eq_false (fun h => h2 h.2)]
      clear h1 h2
      go_enter Tryd.func33, Tryd.ntmps33
      go_wp2
      go_ret
      exact ⟨rfl, by go_grown⟩
  · have e1 : (F == a) = false := bool_ne h1
    rw [decide_eq_false (fun h => h1 h.1)]
    clear h1
    go_enter Tryd.func33, Tryd.ntmps33
    go_wp2
    go_ret
    exact ⟨rfl, by go_grown⟩

/-- The period that has just these days. -/
noncomputable def jusB (S : ByteArray) (a b : Int) : Bool := if perF (S.extract 0 4) = a ∧ perL (S.extract 0 4) = b then true else if perF (S.extract 0 7) = a ∧ perL (S.extract 0 7) = b then true else if perF (S.extract 0 10) = a ∧ perL (S.extract 0 10) = b then true else false
noncomputable def jusS (S : ByteArray) (a b : Int) : ByteArray := if perF (S.extract 0 4) = a ∧ perL (S.extract 0 4) = b then S.extract 0 4 else if perF (S.extract 0 7) = a ∧ perL (S.extract 0 7) = b then S.extract 0 7 else if perF (S.extract 0 10) = a ∧ perL (S.extract 0 10) = b then S.extract 0 10 else { data := #[] }

set_option maxHeartbeats 4000000 in
theorem longest_just (n a b : Int) (k : Nat) (w : World) (hT : Table w) (h1 : 0 ≤ n) (h2 : n ≤ 1048575) (c0 : w.cell? ⟨k, 0, none⟩ = some (.int .i64 a)) (c1 : w.cell? ⟨k, 1, none⟩ = some (.int .i64 b)) :
    Calls Tryd.prog 34 #[.int .i64 n, .func (.func 33) #[] #[.pointer (some ⟨k, 0, none⟩)]] w fun e w' => e = .returned (.tuple #[.string (jusS (dayS n) a b), .bool (jusB (dayS n) a b)]) ∧ Below w.heap.size w w' := by
  have C := Lib.hid (arnd_any n w hT h1 h2)
  obtain ⟨S, hS⟩ : ∃ S, S = dayS n := ⟨_, rfl⟩
  rw [← hS] at C ⊢
  obtain ⟨A, hA⟩ : ∃ A, A = arr9 S := ⟨_, rfl⟩
  have j0 := jx0 S; have j1 := jx1 S; have j2 := jx2 S
  rw [← hA] at C j0 j1 j2
  have z : k < w.heap.size := World.block_lt_of_cell? w ⟨k, 0, none⟩ c0
  clear hS hA hT
  by_cases k4 : perF (S.extract 0 4) = a ∧ perL (S.extract 0 4) = b
  · have hr : jusS S a b = S.extract 0 4 := if_pos k4
    have hs : jusB S a b = true := if_pos k4
    rw [hr, hs]
    have q4 := decide_eq_true k4
    clear k4
    clear hr hs
    go_enter Tryd.func34, Tryd.ntmps34
    go_wp2_with fail
    refine C.out.mono ?_
    rintro e w1 ⟨rfl, hb⟩
    have d0 := (hb.cell (p := ⟨k, 0, none⟩) z).trans c0
    have d1 := (hb.cell (p := ⟨k, 1, none⟩) z).trans c1
    have z1 : k < w1.heap.size := World.block_lt_of_cell? w1 ⟨k, 0, none⟩ d0
    have B1 := Lib.hid hb
    clear hb c0 c1
    go_wp2_with fail
    refine wp_loop_rounds 4 ?_
    rw [rounds_succ]
    go_wp2_with fail
    have g0 : (w1.alloc (.cells #[.string (S.extract 0 4), .int .i64 (perF (S.extract 0 4)), .int .i64 (perL (S.extract 0 4))] 66)).cell? ⟨k, 0, none⟩ = some (.int .i64 a) := (World.cell?_alloc_lt _ _ _ z1).trans d0
    have g1 : (w1.alloc (.cells #[.string (S.extract 0 4), .int .i64 (perF (S.extract 0 4)), .int .i64 (perL (S.extract 0 4))] 66)).cell? ⟨k, 1, none⟩ = some (.int .i64 b) := (World.cell?_alloc_lt _ _ _ z1).trans d1
    refine (fmt1_any _ _ a b k _ g0 g1).mono ?_
    rintro e w2 ⟨rfl, hb⟩
    rw [q4]
    have e0 := (hb.cell (p := ⟨w1.heap.size, 0, none⟩) (by simp)).trans (World.cell?_alloc_new _ _ _ 0)
    have e1 := (hb.cell (p := ⟨w1.heap.size, 1, none⟩) (by simp)).trans (World.cell?_alloc_new _ _ _ 1)
    have e2 := (hb.cell (p := ⟨w1.heap.size, 2, none⟩) (by simp)).trans (World.cell?_alloc_new _ _ _ 2)
    clear d0 d1
    have d0 := (hb.cell (p := ⟨k, 0, none⟩) (by simp; omega)).trans g0
    have d1 := (hb.cell (p := ⟨k, 1, none⟩) (by simp; omega)).trans g1
    have z2 : k < w2.heap.size := World.block_lt_of_cell? w2 ⟨k, 0, none⟩ d0
    have y1 : w.heap.size ≤ w1.heap.size := B1.out.size
    have B2 : Hid (Below w.heap.size w w2) := (B1.out.alloc y1 _).trans (hb.mono (by simp; omega))
    clear hb g0 g1
    go_wp2_with fail
    go_ret2
    exact ⟨rfl, B2.out⟩
  by_cases k7 : perF (S.extract 0 7) = a ∧ perL (S.extract 0 7) = b
  · have hr : jusS S a b = S.extract 0 7 := (if_neg k4).trans (if_pos k7)
    have hs : jusB S a b = true := (if_neg k4).trans (if_pos k7)
    rw [hr, hs]
    have q4 := decide_eq_false k4
    have q7 := decide_eq_true k7
    clear k4 k7
    clear hr hs
    go_enter Tryd.func34, Tryd.ntmps34
    go_wp2_with fail
    refine C.out.mono ?_
    rintro e w1 ⟨rfl, hb⟩
    have d0 := (hb.cell (p := ⟨k, 0, none⟩) z).trans c0
    have d1 := (hb.cell (p := ⟨k, 1, none⟩) z).trans c1
    have z1 : k < w1.heap.size := World.block_lt_of_cell? w1 ⟨k, 0, none⟩ d0
    have B1 := Lib.hid hb
    clear hb c0 c1
    go_wp2_with fail
    refine wp_loop_rounds 4 ?_
    rw [rounds_succ]
    go_wp2_with fail
    have g0 : (w1.alloc (.cells #[.string (S.extract 0 4), .int .i64 (perF (S.extract 0 4)), .int .i64 (perL (S.extract 0 4))] 66)).cell? ⟨k, 0, none⟩ = some (.int .i64 a) := (World.cell?_alloc_lt _ _ _ z1).trans d0
    have g1 : (w1.alloc (.cells #[.string (S.extract 0 4), .int .i64 (perF (S.extract 0 4)), .int .i64 (perL (S.extract 0 4))] 66)).cell? ⟨k, 1, none⟩ = some (.int .i64 b) := (World.cell?_alloc_lt _ _ _ z1).trans d1
    refine (fmt1_any _ _ a b k _ g0 g1).mono ?_
    rintro e w2 ⟨rfl, hb⟩
    rw [q4]
    have e0 := (hb.cell (p := ⟨w1.heap.size, 0, none⟩) (by simp)).trans (World.cell?_alloc_new _ _ _ 0)
    have e1 := (hb.cell (p := ⟨w1.heap.size, 1, none⟩) (by simp)).trans (World.cell?_alloc_new _ _ _ 1)
    have e2 := (hb.cell (p := ⟨w1.heap.size, 2, none⟩) (by simp)).trans (World.cell?_alloc_new _ _ _ 2)
    clear d0 d1
    have d0 := (hb.cell (p := ⟨k, 0, none⟩) (by simp; omega)).trans g0
    have d1 := (hb.cell (p := ⟨k, 1, none⟩) (by simp; omega)).trans g1
    have z2 : k < w2.heap.size := World.block_lt_of_cell? w2 ⟨k, 0, none⟩ d0
    have y1 : w.heap.size ≤ w1.heap.size := B1.out.size
    have B2 : Hid (Below w.heap.size w w2) := (B1.out.alloc y1 _).trans (hb.mono (by simp; omega))
    clear hb g0 g1
    go_wp2_with fail
    clear e0 e1 e2
    rw [rounds_succ]
    go_wp2_with fail
    have g0 : (w2.alloc (.cells #[.string (S.extract 0 7), .int .i64 (perF (S.extract 0 7)), .int .i64 (perL (S.extract 0 7))] 66)).cell? ⟨k, 0, none⟩ = some (.int .i64 a) := (World.cell?_alloc_lt _ _ _ z2).trans d0
    have g1 : (w2.alloc (.cells #[.string (S.extract 0 7), .int .i64 (perF (S.extract 0 7)), .int .i64 (perL (S.extract 0 7))] 66)).cell? ⟨k, 1, none⟩ = some (.int .i64 b) := (World.cell?_alloc_lt _ _ _ z2).trans d1
    refine (fmt1_any _ _ a b k _ g0 g1).mono ?_
    rintro e w3 ⟨rfl, hb⟩
    rw [q7]
    have e0 := (hb.cell (p := ⟨w2.heap.size, 0, none⟩) (by simp)).trans (World.cell?_alloc_new _ _ _ 0)
    have e1 := (hb.cell (p := ⟨w2.heap.size, 1, none⟩) (by simp)).trans (World.cell?_alloc_new _ _ _ 1)
    have e2 := (hb.cell (p := ⟨w2.heap.size, 2, none⟩) (by simp)).trans (World.cell?_alloc_new _ _ _ 2)
    clear d0 d1
    have d0 := (hb.cell (p := ⟨k, 0, none⟩) (by simp; omega)).trans g0
    have d1 := (hb.cell (p := ⟨k, 1, none⟩) (by simp; omega)).trans g1
    have z3 : k < w3.heap.size := World.block_lt_of_cell? w3 ⟨k, 0, none⟩ d0
    have y2 : w.heap.size ≤ w2.heap.size := B2.out.size
    have B3 : Hid (Below w.heap.size w w3) := (B2.out.alloc y2 _).trans (hb.mono (by simp; omega))
    clear hb g0 g1
    go_wp2_with fail
    go_ret2
    exact ⟨rfl, B3.out⟩
  by_cases k10 : perF (S.extract 0 10) = a ∧ perL (S.extract 0 10) = b
  · have hr : jusS S a b = S.extract 0 10 := (if_neg k4).trans ((if_neg k7).trans (if_pos k10))
    have hs : jusB S a b = true := (if_neg k4).trans ((if_neg k7).trans (if_pos k10))
    rw [hr, hs]
    have q4 := decide_eq_false k4
    have q7 := decide_eq_false k7
    have q10 := decide_eq_true k10
    clear k4 k7 k10
    clear hr hs
    go_enter Tryd.func34, Tryd.ntmps34
    go_wp2_with fail
    refine C.out.mono ?_
    rintro e w1 ⟨rfl, hb⟩
    have d0 := (hb.cell (p := ⟨k, 0, none⟩) z).trans c0
    have d1 := (hb.cell (p := ⟨k, 1, none⟩) z).trans c1
    have z1 : k < w1.heap.size := World.block_lt_of_cell? w1 ⟨k, 0, none⟩ d0
    have B1 := Lib.hid hb
    clear hb c0 c1
    go_wp2_with fail
    refine wp_loop_rounds 4 ?_
    rw [rounds_succ]
    go_wp2_with fail
    have g0 : (w1.alloc (.cells #[.string (S.extract 0 4), .int .i64 (perF (S.extract 0 4)), .int .i64 (perL (S.extract 0 4))] 66)).cell? ⟨k, 0, none⟩ = some (.int .i64 a) := (World.cell?_alloc_lt _ _ _ z1).trans d0
    have g1 : (w1.alloc (.cells #[.string (S.extract 0 4), .int .i64 (perF (S.extract 0 4)), .int .i64 (perL (S.extract 0 4))] 66)).cell? ⟨k, 1, none⟩ = some (.int .i64 b) := (World.cell?_alloc_lt _ _ _ z1).trans d1
    refine (fmt1_any _ _ a b k _ g0 g1).mono ?_
    rintro e w2 ⟨rfl, hb⟩
    rw [q4]
    have e0 := (hb.cell (p := ⟨w1.heap.size, 0, none⟩) (by simp)).trans (World.cell?_alloc_new _ _ _ 0)
    have e1 := (hb.cell (p := ⟨w1.heap.size, 1, none⟩) (by simp)).trans (World.cell?_alloc_new _ _ _ 1)
    have e2 := (hb.cell (p := ⟨w1.heap.size, 2, none⟩) (by simp)).trans (World.cell?_alloc_new _ _ _ 2)
    clear d0 d1
    have d0 := (hb.cell (p := ⟨k, 0, none⟩) (by simp; omega)).trans g0
    have d1 := (hb.cell (p := ⟨k, 1, none⟩) (by simp; omega)).trans g1
    have z2 : k < w2.heap.size := World.block_lt_of_cell? w2 ⟨k, 0, none⟩ d0
    have y1 : w.heap.size ≤ w1.heap.size := B1.out.size
    have B2 : Hid (Below w.heap.size w w2) := (B1.out.alloc y1 _).trans (hb.mono (by simp; omega))
    clear hb g0 g1
    go_wp2_with fail
    clear e0 e1 e2
    rw [rounds_succ]
    go_wp2_with fail
    have g0 : (w2.alloc (.cells #[.string (S.extract 0 7), .int .i64 (perF (S.extract 0 7)), .int .i64 (perL (S.extract 0 7))] 66)).cell? ⟨k, 0, none⟩ = some (.int .i64 a) := (World.cell?_alloc_lt _ _ _ z2).trans d0
    have g1 : (w2.alloc (.cells #[.string (S.extract 0 7), .int .i64 (perF (S.extract 0 7)), .int .i64 (perL (S.extract 0 7))] 66)).cell? ⟨k, 1, none⟩ = some (.int .i64 b) := (World.cell?_alloc_lt _ _ _ z2).trans d1
    refine (fmt1_any _ _ a b k _ g0 g1).mono ?_
    rintro e w3 ⟨rfl, hb⟩
    rw [q7]
    have e0 := (hb.cell (p := ⟨w2.heap.size, 0, none⟩) (by simp)).trans (World.cell?_alloc_new _ _ _ 0)
    have e1 := (hb.cell (p := ⟨w2.heap.size, 1, none⟩) (by simp)).trans (World.cell?_alloc_new _ _ _ 1)
    have e2 := (hb.cell (p := ⟨w2.heap.size, 2, none⟩) (by simp)).trans (World.cell?_alloc_new _ _ _ 2)
    clear d0 d1
    have d0 := (hb.cell (p := ⟨k, 0, none⟩) (by simp; omega)).trans g0
    have d1 := (hb.cell (p := ⟨k, 1, none⟩) (by simp; omega)).trans g1
    have z3 : k < w3.heap.size := World.block_lt_of_cell? w3 ⟨k, 0, none⟩ d0
    have y2 : w.heap.size ≤ w2.heap.size := B2.out.size
    have B3 : Hid (Below w.heap.size w w3) := (B2.out.alloc y2 _).trans (hb.mono (by simp; omega))
    clear hb g0 g1
    go_wp2_with fail
    clear e0 e1 e2
    rw [rounds_succ]
    go_wp2_with fail
    have g0 : (w3.alloc (.cells #[.string (S.extract 0 10), .int .i64 (perF (S.extract 0 10)), .int .i64 (perL (S.extract 0 10))] 66)).cell? ⟨k, 0, none⟩ = some (.int .i64 a) := (World.cell?_alloc_lt _ _ _ z3).trans d0
    have g1 : (w3.alloc (.cells #[.string (S.extract 0 10), .int .i64 (perF (S.extract 0 10)), .int .i64 (perL (S.extract 0 10))] 66)).cell? ⟨k, 1, none⟩ = some (.int .i64 b) := (World.cell?_alloc_lt _ _ _ z3).trans d1
    refine (fmt1_any _ _ a b k _ g0 g1).mono ?_
    rintro e w4 ⟨rfl, hb⟩
    rw [q10]
    have e0 := (hb.cell (p := ⟨w3.heap.size, 0, none⟩) (by simp)).trans (World.cell?_alloc_new _ _ _ 0)
    have e1 := (hb.cell (p := ⟨w3.heap.size, 1, none⟩) (by simp)).trans (World.cell?_alloc_new _ _ _ 1)
    have e2 := (hb.cell (p := ⟨w3.heap.size, 2, none⟩) (by simp)).trans (World.cell?_alloc_new _ _ _ 2)
    clear d0 d1
    have d0 := (hb.cell (p := ⟨k, 0, none⟩) (by simp; omega)).trans g0
    have d1 := (hb.cell (p := ⟨k, 1, none⟩) (by simp; omega)).trans g1
    have z4 : k < w4.heap.size := World.block_lt_of_cell? w4 ⟨k, 0, none⟩ d0
    have y3 : w.heap.size ≤ w3.heap.size := B3.out.size
    have B4 : Hid (Below w.heap.size w w4) := (B3.out.alloc y3 _).trans (hb.mono (by simp; omega))
    clear hb g0 g1
    go_wp2_with fail
    go_ret2
    exact ⟨rfl, B4.out⟩
  have hr : jusS S a b = { data := #[] } := (if_neg k4).trans ((if_neg k7).trans (if_neg k10))
  have hs : jusB S a b = false := (if_neg k4).trans ((if_neg k7).trans (if_neg k10))
  rw [hr, hs]
  have q4 := decide_eq_false k4
  have q7 := decide_eq_false k7
  have q10 := decide_eq_false k10
  clear k4 k7 k10
  clear hr hs
  go_enter Tryd.func34, Tryd.ntmps34
  go_wp2_with fail
  refine C.out.mono ?_
  rintro e w1 ⟨rfl, hb⟩
  have d0 := (hb.cell (p := ⟨k, 0, none⟩) z).trans c0
  have d1 := (hb.cell (p := ⟨k, 1, none⟩) z).trans c1
  have z1 : k < w1.heap.size := World.block_lt_of_cell? w1 ⟨k, 0, none⟩ d0
  have B1 := Lib.hid hb
  clear hb c0 c1
  go_wp2_with fail
  refine wp_loop_rounds 4 ?_
  rw [rounds_succ]
  go_wp2_with fail
  have g0 : (w1.alloc (.cells #[.string (S.extract 0 4), .int .i64 (perF (S.extract 0 4)), .int .i64 (perL (S.extract 0 4))] 66)).cell? ⟨k, 0, none⟩ = some (.int .i64 a) := (World.cell?_alloc_lt _ _ _ z1).trans d0
  have g1 : (w1.alloc (.cells #[.string (S.extract 0 4), .int .i64 (perF (S.extract 0 4)), .int .i64 (perL (S.extract 0 4))] 66)).cell? ⟨k, 1, none⟩ = some (.int .i64 b) := (World.cell?_alloc_lt _ _ _ z1).trans d1
  refine (fmt1_any _ _ a b k _ g0 g1).mono ?_
  rintro e w2 ⟨rfl, hb⟩
  rw [q4]
  have e0 := (hb.cell (p := ⟨w1.heap.size, 0, none⟩) (by simp)).trans (World.cell?_alloc_new _ _ _ 0)
  have e1 := (hb.cell (p := ⟨w1.heap.size, 1, none⟩) (by simp)).trans (World.cell?_alloc_new _ _ _ 1)
  have e2 := (hb.cell (p := ⟨w1.heap.size, 2, none⟩) (by simp)).trans (World.cell?_alloc_new _ _ _ 2)
  clear d0 d1
  have d0 := (hb.cell (p := ⟨k, 0, none⟩) (by simp; omega)).trans g0
  have d1 := (hb.cell (p := ⟨k, 1, none⟩) (by simp; omega)).trans g1
  have z2 : k < w2.heap.size := World.block_lt_of_cell? w2 ⟨k, 0, none⟩ d0
  have y1 : w.heap.size ≤ w1.heap.size := B1.out.size
  have B2 : Hid (Below w.heap.size w w2) := (B1.out.alloc y1 _).trans (hb.mono (by simp; omega))
  clear hb g0 g1
  go_wp2_with fail
  clear e0 e1 e2
  rw [rounds_succ]
  go_wp2_with fail
  have g0 : (w2.alloc (.cells #[.string (S.extract 0 7), .int .i64 (perF (S.extract 0 7)), .int .i64 (perL (S.extract 0 7))] 66)).cell? ⟨k, 0, none⟩ = some (.int .i64 a) := (World.cell?_alloc_lt _ _ _ z2).trans d0
  have g1 : (w2.alloc (.cells #[.string (S.extract 0 7), .int .i64 (perF (S.extract 0 7)), .int .i64 (perL (S.extract 0 7))] 66)).cell? ⟨k, 1, none⟩ = some (.int .i64 b) := (World.cell?_alloc_lt _ _ _ z2).trans d1
  refine (fmt1_any _ _ a b k _ g0 g1).mono ?_
  rintro e w3 ⟨rfl, hb⟩
  rw [q7]
  have e0 := (hb.cell (p := ⟨w2.heap.size, 0, none⟩) (by simp)).trans (World.cell?_alloc_new _ _ _ 0)
  have e1 := (hb.cell (p := ⟨w2.heap.size, 1, none⟩) (by simp)).trans (World.cell?_alloc_new _ _ _ 1)
  have e2 := (hb.cell (p := ⟨w2.heap.size, 2, none⟩) (by simp)).trans (World.cell?_alloc_new _ _ _ 2)
  clear d0 d1
  have d0 := (hb.cell (p := ⟨k, 0, none⟩) (by simp; omega)).trans g0
  have d1 := (hb.cell (p := ⟨k, 1, none⟩) (by simp; omega)).trans g1
  have z3 : k < w3.heap.size := World.block_lt_of_cell? w3 ⟨k, 0, none⟩ d0
  have y2 : w.heap.size ≤ w2.heap.size := B2.out.size
  have B3 : Hid (Below w.heap.size w w3) := (B2.out.alloc y2 _).trans (hb.mono (by simp; omega))
  clear hb g0 g1
  go_wp2_with fail
  clear e0 e1 e2
  rw [rounds_succ]
  go_wp2_with fail
  have g0 : (w3.alloc (.cells #[.string (S.extract 0 10), .int .i64 (perF (S.extract 0 10)), .int .i64 (perL (S.extract 0 10))] 66)).cell? ⟨k, 0, none⟩ = some (.int .i64 a) := (World.cell?_alloc_lt _ _ _ z3).trans d0
  have g1 : (w3.alloc (.cells #[.string (S.extract 0 10), .int .i64 (perF (S.extract 0 10)), .int .i64 (perL (S.extract 0 10))] 66)).cell? ⟨k, 1, none⟩ = some (.int .i64 b) := (World.cell?_alloc_lt _ _ _ z3).trans d1
  refine (fmt1_any _ _ a b k _ g0 g1).mono ?_
  rintro e w4 ⟨rfl, hb⟩
  rw [q10]
  have e0 := (hb.cell (p := ⟨w3.heap.size, 0, none⟩) (by simp)).trans (World.cell?_alloc_new _ _ _ 0)
  have e1 := (hb.cell (p := ⟨w3.heap.size, 1, none⟩) (by simp)).trans (World.cell?_alloc_new _ _ _ 1)
  have e2 := (hb.cell (p := ⟨w3.heap.size, 2, none⟩) (by simp)).trans (World.cell?_alloc_new _ _ _ 2)
  clear d0 d1
  have d0 := (hb.cell (p := ⟨k, 0, none⟩) (by simp; omega)).trans g0
  have d1 := (hb.cell (p := ⟨k, 1, none⟩) (by simp; omega)).trans g1
  have z4 : k < w4.heap.size := World.block_lt_of_cell? w4 ⟨k, 0, none⟩ d0
  have y3 : w.heap.size ≤ w3.heap.size := B3.out.size
  have B4 : Hid (Below w.heap.size w w4) := (B3.out.alloc y3 _).trans (hb.mono (by simp; omega))
  clear hb g0 g1
  go_wp2_with fail
  clear e0 e1 e2
  rw [rounds_succ]
  go_wp2_with fail
  go_ret2
  exact ⟨rfl, B4.out⟩

end Go.Proofs.YtjpiaccpcmlfnaaDoor
