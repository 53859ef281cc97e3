/-
  What beginning and ending answer: the text of the longest period that begins, or ends, on a day. No statement of the seat is proved here.
-/
import Derived.Test.YtjpiaccpcmlfnaaDoorAr
namespace Go.Proofs.YtjpiaccpcmlfnaaDoor
open Go.RowKit Cal
open Classical

theorem jx0 (s : ByteArray) (w : World) : (Instr.index 67 (.agg (arr9 s)) (.int .i64 0)).run Tryd.prog w = .ok (.agg #[.string (s.extract 0 4), .int .i64 (perF (s.extract 0 4)), .int .i64 (perL (s.extract 0 4))]) w := by kernel_rfl
theorem jx1 (s : ByteArray) (w : World) : (Instr.index 67 (.agg (arr9 s)) (.int .i64 1)).run Tryd.prog w = .ok (.agg #[.string (s.extract 0 7), .int .i64 (perF (s.extract 0 7)), .int .i64 (perL (s.extract 0 7))]) w := by kernel_rfl
theorem jx2 (s : ByteArray) (w : World) : (Instr.index 67 (.agg (arr9 s)) (.int .i64 2)).run Tryd.prog w = .ok (.agg #[.string (s.extract 0 10), .int .i64 (perF (s.extract 0 10)), .int .i64 (perL (s.extract 0 10))]) w := by kernel_rfl

/-- A text of a day, its period that begins there, and its period that ends there. -/
noncomputable def begS (s : ByteArray) (n : Int) : ByteArray := if perF (s.extract 0 4) = n then s.extract 0 4 else if perF (s.extract 0 7) = n then s.extract 0 7 else s.extract 0 10
noncomputable def endS (s : ByteArray) (n : Int) : ByteArray := if perL (s.extract 0 4) = n then s.extract 0 4 else if perL (s.extract 0 7) = n then s.extract 0 7 else s.extract 0 10

theorem two_allocs {w : World} {b : Nat} {v : Value} (c : w.cell? ⟨b, 0, none⟩ = some v) (o o' : Obj) : ((w.alloc o).alloc o').cell? ⟨b, 0, none⟩ = some v := by
  have h : b < w.heap.size := World.block_lt_of_cell? w ⟨b, 0, none⟩ c
  rw [World.cell?_alloc_lt _ _ _ (by simp; omega), World.cell?_alloc_lt _ _ _ h, c]
set_option maxHeartbeats 4000000 in
theorem beginning_is (n y m d : Int) (w : World) (hT : Table w) (h1 : 0 ≤ n) (h2 : n ≤ 1048575) (h : IsDate n y m d) (h10 : perF ((strOfNums (txt y m d)).extract 0 10) = n) :
    Calls Tryd.prog 35 #[.int .i64 n] w fun e w' => e = .returned (.string (begS (strOfNums (txt y m d)) n)) ∧ Below w.heap.size w w' := by
  have C := Lib.hid (around_is n y m d (w.alloc (.cells #[.int .i64 n] 3)) (hT.below ((Below.refl _ _).alloc (Nat.le_refl _) _)) h1 h2 h)
  obtain ⟨S, hS⟩ : ∃ S, S = strOfNums (txt y m d) := ⟨_, rfl⟩
  rw [← hS] at C h10 ⊢
  obtain ⟨A, hA⟩ : ∃ A, A = arr9 S := ⟨_, rfl⟩
  have j0 := jx0 S; have j1 := jx1 S; have j2 := jx2 S
  rw [← hA] at C j0 j1 j2
  clear hS hA hT h
  by_cases k4 : perF (S.extract 0 4) = n
  · have hr : begS S n = S.extract 0 4 := if_pos k4
    rw [hr]
    have b4 : (perF (S.extract 0 4) == n) = true := bool_eq k4
    clear k4 h10
    clear hr
    go_enter Tryd.func35, Tryd.ntmps35
    go_wp2_with (go_at_call 34; go_in)
    refine C.out.mono ?_
    rintro e w1 ⟨rfl, hb⟩
    have B1 : Hid (Below w.heap.size w w1) := ((Below.refl w.heap.size w).alloc (Nat.le_refl _) _).trans (hb.mono (by simp))
    have c := hb.cell (p := ⟨w.heap.size, 0, none⟩) (by simp)
    rw [World.cell?_alloc_new] at c
    have c1 : w1.cell? ⟨w.heap.size, 0, none⟩ = some (.int .i64 n) := c
    have z1 : w.heap.size < w1.heap.size := by have := hb.size; simp at this; omega
    clear c hb
    go_wp2
    refine wp_loop_rounds 4 ?_
    rw [rounds_succ]
    go_wp2
    go_ret
    refine ⟨rfl, ?_⟩
    have b := B1.out
    go_grown
  by_cases k7 : perF (S.extract 0 7) = n
  · have hr : begS S n = S.extract 0 7 := (if_neg k4).trans (if_pos k7)
    rw [hr]
    have b4 : (perF (S.extract 0 4) == n) = false := bool_ne k4
    have b7 : (perF (S.extract 0 7) == n) = true := bool_eq k7
    clear k4 k7 h10
    clear hr
    go_enter Tryd.func35, Tryd.ntmps35
    go_wp2_with (go_at_call 34; go_in)
    refine C.out.mono ?_
    rintro e w1 ⟨rfl, hb⟩
    have B1 : Hid (Below w.heap.size w w1) := ((Below.refl w.heap.size w).alloc (Nat.le_refl _) _).trans (hb.mono (by simp))
    have c := hb.cell (p := ⟨w.heap.size, 0, none⟩) (by simp)
    rw [World.cell?_alloc_new] at c
    have c1 : w1.cell? ⟨w.heap.size, 0, none⟩ = some (.int .i64 n) := c
    have z1 : w.heap.size < w1.heap.size := by have := hb.size; simp at this; omega
    clear c hb
    go_wp2
    refine wp_loop_rounds 4 ?_
    rw [rounds_succ]
    go_wp2
    obtain ⟨w2, hV⟩ : ∃ V : World, ((w1.alloc (.cells #[.string (S.extract 0 4), .int .i64 (perF (S.extract 0 4)), .int .i64 (perL (S.extract 0 4))] 66)).alloc (.cells #[.int .i64 (perF (S.extract 0 4)), .int .i64 (perL (S.extract 0 4))] 23)) = V := ⟨_, rfl⟩
    have c2 : w2.cell? ⟨w.heap.size, 0, none⟩ = some (.int .i64 n) := by rw [← hV]; exact two_allocs c1 _ _
    have z2 : w.heap.size < w2.heap.size := by rw [← hV]; simp; omega
    have B2 : Hid (Below w.heap.size w w2) := by rw [← hV]; exact ((B1.out.alloc (by omega) _).alloc (by simp; omega) _)
    rw [hV]
    clear hV c1
    rw [rounds_succ]
    go_wp2
    go_ret
    refine ⟨rfl, ?_⟩
    have b := B2.out
    go_grown
  have hr : begS S n = S.extract 0 10 := (if_neg k4).trans (if_neg k7)
  rw [hr]
  have b4 : (perF (S.extract 0 4) == n) = false := bool_ne k4
  have b7 : (perF (S.extract 0 7) == n) = false := bool_ne k7
  have b10 : (perF (S.extract 0 10) == n) = true := bool_eq h10
  clear k4 k7 h10
  clear hr
  go_enter Tryd.func35, Tryd.ntmps35
  go_wp2_with (go_at_call 34; go_in)
  refine C.out.mono ?_
  rintro e w1 ⟨rfl, hb⟩
  have B1 : Hid (Below w.heap.size w w1) := ((Below.refl w.heap.size w).alloc (Nat.le_refl _) _).trans (hb.mono (by simp))
  have c := hb.cell (p := ⟨w.heap.size, 0, none⟩) (by simp)
  rw [World.cell?_alloc_new] at c
  have c1 : w1.cell? ⟨w.heap.size, 0, none⟩ = some (.int .i64 n) := c
  have z1 : w.heap.size < w1.heap.size := by have := hb.size; simp at this; omega
  clear c hb
  go_wp2
  refine wp_loop_rounds 4 ?_
  rw [rounds_succ]
  go_wp2
  obtain ⟨w2, hV⟩ : ∃ V : World, ((w1.alloc (.cells #[.string (S.extract 0 4), .int .i64 (perF (S.extract 0 4)), .int .i64 (perL (S.extract 0 4))] 66)).alloc (.cells #[.int .i64 (perF (S.extract 0 4)), .int .i64 (perL (S.extract 0 4))] 23)) = V := ⟨_, rfl⟩
  have c2 : w2.cell? ⟨w.heap.size, 0, none⟩ = some (.int .i64 n) := by rw [← hV]; exact two_allocs c1 _ _
  have z2 : w.heap.size < w2.heap.size := by rw [← hV]; simp; omega
  have B2 : Hid (Below w.heap.size w w2) := by rw [← hV]; exact ((B1.out.alloc (by omega) _).alloc (by simp; omega) _)
  rw [hV]
  clear hV c1
  rw [rounds_succ]
  go_wp2
  obtain ⟨w3, hV⟩ : ∃ V : World, ((w2.alloc (.cells #[.string (S.extract 0 7), .int .i64 (perF (S.extract 0 7)), .int .i64 (perL (S.extract 0 7))] 66)).alloc (.cells #[.int .i64 (perF (S.extract 0 7)), .int .i64 (perL (S.extract 0 7))] 23)) = V := ⟨_, rfl⟩
  have c3 : w3.cell? ⟨w.heap.size, 0, none⟩ = some (.int .i64 n) := by rw [← hV]; exact two_allocs c2 _ _
  have z3 : w.heap.size < w3.heap.size := by rw [← hV]; simp; omega
  have B3 : Hid (Below w.heap.size w w3) := by rw [← hV]; exact ((B2.out.alloc (by omega) _).alloc (by simp; omega) _)
  rw [hV]
  clear hV c2
  rw [rounds_succ]
  go_wp2
  go_ret
  refine ⟨rfl, ?_⟩
  have b := B3.out
  go_grown

set_option maxHeartbeats 4000000 in
theorem ending_is (n y m d : Int) (w : World) (hT : Table w) (h1 : 0 ≤ n) (h2 : n ≤ 1048575) (h : IsDate n y m d) (h10 : perL ((strOfNums (txt y m d)).extract 0 10) = n) :
    Calls Tryd.prog 36 #[.int .i64 n] w fun e w' => e = .returned (.string (endS (strOfNums (txt y m d)) n)) ∧ Below w.heap.size w w' := by
  have C := Lib.hid (around_is n y m d (w.alloc (.cells #[.int .i64 n] 3)) (hT.below ((Below.refl _ _).alloc (Nat.le_refl _) _)) h1 h2 h)
  obtain ⟨S, hS⟩ : ∃ S, S = strOfNums (txt y m d) := ⟨_, rfl⟩
  rw [← hS] at C h10 ⊢
  obtain ⟨A, hA⟩ : ∃ A, A = arr9 S := ⟨_, rfl⟩
  have j0 := jx0 S; have j1 := jx1 S; have j2 := jx2 S
  rw [← hA] at C j0 j1 j2
  clear hS hA hT h
  by_cases k4 : perL (S.extract 0 4) = n
  · have hr : endS S n = S.extract 0 4 := if_pos k4
    rw [hr]
    have b4 : (perL (S.extract 0 4) == n) = true := bool_eq k4
    clear k4 h10
    clear hr
    go_enter Tryd.func36, Tryd.ntmps36
    go_wp2_with (go_at_call 34; go_in)
    refine C.out.mono ?_
    rintro e w1 ⟨rfl, hb⟩
    have B1 : Hid (Below w.heap.size w w1) := ((Below.refl w.heap.size w).alloc (Nat.le_refl _) _).trans (hb.mono (by simp))
    have c := hb.cell (p := ⟨w.heap.size, 0, none⟩) (by simp)
    rw [World.cell?_alloc_new] at c
    have c1 : w1.cell? ⟨w.heap.size, 0, none⟩ = some (.int .i64 n) := c
    have z1 : w.heap.size < w1.heap.size := by have := hb.size; simp at this; omega
    clear c hb
    go_wp2
    refine wp_loop_rounds 4 ?_
    rw [rounds_succ]
    go_wp2
    go_ret
    refine ⟨rfl, ?_⟩
    have b := B1.out
    go_grown
  by_cases k7 : perL (S.extract 0 7) = n
  · have hr : endS S n = S.extract 0 7 := (if_neg k4).trans (if_pos k7)
    rw [hr]
    have b4 : (perL (S.extract 0 4) == n) = false := bool_ne k4
    have b7 : (perL (S.extract 0 7) == n) = true := bool_eq k7
    clear k4 k7 h10
    clear hr
    go_enter Tryd.func36, Tryd.ntmps36
    go_wp2_with (go_at_call 34; go_in)
    refine C.out.mono ?_
    rintro e w1 ⟨rfl, hb⟩
    have B1 : Hid (Below w.heap.size w w1) := ((Below.refl w.heap.size w).alloc (Nat.le_refl _) _).trans (hb.mono (by simp))
    have c := hb.cell (p := ⟨w.heap.size, 0, none⟩) (by simp)
    rw [World.cell?_alloc_new] at c
    have c1 : w1.cell? ⟨w.heap.size, 0, none⟩ = some (.int .i64 n) := c
    have z1 : w.heap.size < w1.heap.size := by have := hb.size; simp at this; omega
    clear c hb
    go_wp2
    refine wp_loop_rounds 4 ?_
    rw [rounds_succ]
    go_wp2
    obtain ⟨w2, hV⟩ : ∃ V : World, ((w1.alloc (.cells #[.string (S.extract 0 4), .int .i64 (perF (S.extract 0 4)), .int .i64 (perL (S.extract 0 4))] 66)).alloc (.cells #[.int .i64 (perF (S.extract 0 4)), .int .i64 (perL (S.extract 0 4))] 23)) = V := ⟨_, rfl⟩
    have c2 : w2.cell? ⟨w.heap.size, 0, none⟩ = some (.int .i64 n) := by rw [← hV]; exact two_allocs c1 _ _
    have z2 : w.heap.size < w2.heap.size := by rw [← hV]; simp; omega
    have B2 : Hid (Below w.heap.size w w2) := by rw [← hV]; exact ((B1.out.alloc (by omega) _).alloc (by simp; omega) _)
    rw [hV]
    clear hV c1
    rw [rounds_succ]
    go_wp2
    go_ret
    refine ⟨rfl, ?_⟩
    have b := B2.out
    go_grown
  have hr : endS S n = S.extract 0 10 := (if_neg k4).trans (if_neg k7)
  rw [hr]
  have b4 : (perL (S.extract 0 4) == n) = false := bool_ne k4
  have b7 : (perL (S.extract 0 7) == n) = false := bool_ne k7
  have b10 : (perL (S.extract 0 10) == n) = true := bool_eq h10
  clear k4 k7 h10
  clear hr
  go_enter Tryd.func36, Tryd.ntmps36
  go_wp2_with (go_at_call 34; go_in)
  refine C.out.mono ?_
  rintro e w1 ⟨rfl, hb⟩
  have B1 : Hid (Below w.heap.size w w1) := ((Below.refl w.heap.size w).alloc (Nat.le_refl _) _).trans (hb.mono (by simp))
  have c := hb.cell (p := ⟨w.heap.size, 0, none⟩) (by simp)
  rw [World.cell?_alloc_new] at c
  have c1 : w1.cell? ⟨w.heap.size, 0, none⟩ = some (.int .i64 n) := c
  have z1 : w.heap.size < w1.heap.size := by have := hb.size; simp at this; omega
  clear c hb
  go_wp2
  refine wp_loop_rounds 4 ?_
  rw [rounds_succ]
  go_wp2
  obtain ⟨w2, hV⟩ : ∃ V : World, ((w1.alloc (.cells #[.string (S.extract 0 4), .int .i64 (perF (S.extract 0 4)), .int .i64 (perL (S.extract 0 4))] 66)).alloc (.cells #[.int .i64 (perF (S.extract 0 4)), .int .i64 (perL (S.extract 0 4))] 23)) = V := ⟨_, rfl⟩
  have c2 : w2.cell? ⟨w.heap.size, 0, none⟩ = some (.int .i64 n) := by rw [← hV]; exact two_allocs c1 _ _
  have z2 : w.heap.size < w2.heap.size := by rw [← hV]; simp; omega
  have B2 : Hid (Below w.heap.size w w2) := by rw [← hV]; exact ((B1.out.alloc (by omega) _).alloc (by simp; omega) _)
  rw [hV]
  clear hV c1
  rw [rounds_succ]
  go_wp2
  obtain ⟨w3, hV⟩ : ∃ V : World, ((w2.alloc (.cells #[.string (S.extract 0 7), .int .i64 (perF (S.extract 0 7)), .int .i64 (perL (S.extract 0 7))] 66)).alloc (.cells #[.int .i64 (perF (S.extract 0 7)), .int .i64 (perL (S.extract 0 7))] 23)) = V := ⟨_, rfl⟩
  have c3 : w3.cell? ⟨w.heap.size, 0, none⟩ = some (.int .i64 n) := by rw [← hV]; exact two_allocs c2 _ _
  have z3 : w.heap.size < w3.heap.size := by rw [← hV]; simp; omega
  have B3 : Hid (Below w.heap.size w w3) := by rw [← hV]; exact ((B2.out.alloc (by omega) _).alloc (by simp; omega) _)
  rw [hV]
  clear hV c2
  rw [rounds_succ]
  go_wp2
  go_ret
  refine ⟨rfl, ?_⟩
  have b := B3.out
  go_grown

end Go.Proofs.YtjpiaccpcmlfnaaDoor
