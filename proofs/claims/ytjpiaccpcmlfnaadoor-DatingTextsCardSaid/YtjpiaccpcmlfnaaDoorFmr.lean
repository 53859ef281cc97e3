/-
  What Format answers in all other cases. No statement of the seat is proved here.
-/
import Derived.Test.YtjpiaccpcmlfnaaDoorLk
namespace Go.Proofs.YtjpiaccpcmlfnaaDoor
open Go.RowKit Cal
open Classical

set_option maxHeartbeats 4000000 in
theorem Format_just0 (b : Int) (w : World) (hT : Table w) (h2 : 0 ≤ b) (h3 : b ≤ 1048575) (hb' : (b == 1048575) = false) (hj : jusB (dayS 0) 0 b = true) :
    Calls Tryd.prog 24 #[.agg #[.int .i64 0, .int .i64 b]] w fun e w' => e = .returned (.tuple #[.string (jusS (dayS 0) 0 b), .int .i64 0]) ∧ Below w.heap.size w w' := by
  have HT := Lib.hid hT
  have HJ := Lib.hid hj
  have hlt := hT.lt
  clear hT hj
  go_enter Tryd.func24, Tryd.ntmps24
  go_wp2
  go_region_calls
  all_goals
    go_wp2_with fail
    refine (longest_just 0 0 b w.heap.size _ (HT.out.below (by go_grown)) (by omega) (by omega) (own3 _ _ _ _ _ _).1 (own3 _ _ _ _ _ _).2).mono ?_
    rintro e w1 ⟨rfl, hb1⟩
    rw [HJ.out]
    have B1 : Hid (Below w.heap.size w w1) := (Below.trans (by go_grown) (hb1.mono (by simp; omega)))
    clear hb1
    go_wp2_with fail
    go_ret2
    exact ⟨rfl, B1.out⟩

set_option maxHeartbeats 4000000 in
theorem Format_before (b : Int) (w : World) (hT : Table w) (h2 : 0 ≤ b) (h3 : b ≤ 1048575) (hb' : (b == 1048575) = false) (hj : jusB (dayS 0) 0 b = false) :
    Calls Tryd.prog 24 #[.agg #[.int .i64 0, .int .i64 b]] w fun e w' => e = .returned (.tuple #[.string (bef ++ begS (dayS (b + 1)) (b + 1)), .int .i64 0]) ∧ Below w.heap.size w w' := by
  have HT := Lib.hid hT
  have HJ := Lib.hid hj
  have hlt := hT.lt
  have hb9 : b < 1048575 := by
    have : b ≠ 1048575 := by simpa using hb'
    omega
  have zb := begS_size (dayS (b + 1)) (b + 1)
  clear hT hj
  go_enter Tryd.func24, Tryd.ntmps24
  go_wp2
  go_region_calls
  all_goals
    go_wp2_with fail
    refine (longest_just 0 0 b w.heap.size _ (HT.out.below (by go_grown)) (by omega) (by omega) (own3 _ _ _ _ _ _).1 (own3 _ _ _ _ _ _).2).mono ?_
    rintro e w1 ⟨rfl, hb1⟩
    rw [HJ.out]
    have B1 : Hid (Below w.heap.size w w1) := (Below.trans (by go_grown) (hb1.mono (by simp; omega)))
    have c0 := (hb1.cell (p := ⟨w.heap.size, 0, none⟩) (by simp; omega)).trans (own3 _ _ _ _ _ _).1
    have c1 := (hb1.cell (p := ⟨w.heap.size, 1, none⟩) (by simp; omega)).trans (own3 _ _ _ _ _ _).2
    clear hb1
    go_wp2_with fail
    refine (beg_any (b + 1) _ (HT.out.below B1.out) (by omega) (by omega)).mono ?_
    rintro e w2 ⟨rfl, hb2⟩
    have B2 := Lib.hid (B1.out.trans (hb2.mono B1.out.size))
    clear hb2
    go_wp2_with fail
    go_ret2
    exact ⟨rfl, B2.out⟩

set_option maxHeartbeats 4000000 in
theorem Format_after (a : Int) (w : World) (hT : Table w) (h2 : 0 ≤ a) (h3 : a ≤ 1048575) (ha : (a == 0) = false) (hj : jusB (dayS a) a 1048575 = false) :
    Calls Tryd.prog 24 #[.agg #[.int .i64 a, .int .i64 1048575]] w fun e w' => e = .returned (.tuple #[.string (aft ++ endS (dayS (a - 1)) (a - 1)), .int .i64 0]) ∧ Below w.heap.size w w' := by
  have HT := Lib.hid hT
  have HJ := Lib.hid hj
  have hlt := hT.lt
  have ha9 : 0 < a := by
    have : a ≠ 0 := by simpa using ha
    omega
  have zb := endS_size (dayS (a - 1)) (a - 1)
  clear hT hj
  go_enter Tryd.func24, Tryd.ntmps24
  go_wp2
  go_region_calls
  all_goals
    go_wp2_with fail
    refine (longest_just a a 1048575 w.heap.size _ (HT.out.below (by go_grown)) (by omega) (by omega) (own3 _ _ _ _ _ _).1 (own3 _ _ _ _ _ _).2).mono ?_
    rintro e w1 ⟨rfl, hb1⟩
    rw [HJ.out]
    have B1 : Hid (Below w.heap.size w w1) := (Below.trans (by go_grown) (hb1.mono (by simp; omega)))
    have c0 := (hb1.cell (p := ⟨w.heap.size, 0, none⟩) (by simp; omega)).trans (own3 _ _ _ _ _ _).1
    have c1 := (hb1.cell (p := ⟨w.heap.size, 1, none⟩) (by simp; omega)).trans (own3 _ _ _ _ _ _).2
    clear hb1
    go_wp2_with fail
    refine (end_any (a - 1) _ (HT.out.below B1.out) (by omega) (by omega)).mono ?_
    rintro e w2 ⟨rfl, hb2⟩
    have B2 := Lib.hid (B1.out.trans (hb2.mono B1.out.size))
    clear hb2
    go_wp2_with fail
    go_ret2
    exact ⟨rfl, B2.out⟩
end Go.Proofs.YtjpiaccpcmlfnaaDoor
