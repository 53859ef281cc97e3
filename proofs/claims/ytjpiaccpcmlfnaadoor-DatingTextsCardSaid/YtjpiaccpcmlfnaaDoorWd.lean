/-
  What withDays and the two functions beside a period answer. No statement of the seat is proved here.
-/
import Derived.Test.YtjpiaccpcmlfnaaDoorRs
import Derived.Test.YtjpiaccpcmlfnaaDoorPer2
import Derived.Test.YtjpiaccpcmlfnaaDoorLk
namespace Go.Proofs.YtjpiaccpcmlfnaaDoor
open Go.RowKit Cal

theorem agg2_new (w : World) (x y : Value) (t : TypeId) (o : Obj) :
    ((w.alloc (.cells #[x, y] t)).alloc o).cell? ⟨w.heap.size, 0, none⟩ = some x ∧ ((w.alloc (.cells #[x, y] t)).alloc o).cell? ⟨w.heap.size, 1, none⟩ = some y := by
  have h1 : w.heap.size < (w.alloc (.cells #[x, y] t)).heap.size := by simp
  exact ⟨(World.cell?_alloc_lt _ o ⟨w.heap.size, 0, none⟩ h1).trans (World.cell?_alloc_new _ _ _ _), (World.cell?_alloc_lt _ o ⟨w.heap.size, 1, none⟩ h1).trans (World.cell?_alloc_new _ _ _ _)⟩

set_option maxHeartbeats 2000000 in
theorem rd1_is (a b : Int) (w : World) (h0 : 0 ≤ a) (h9 : a ≤ 1048575) :
    Calls Tryd.prog 63 #[.agg #[.int .i64 a, .int .i64 b]] w fun e w' => e = .returned (.agg #[.int .i64 0, .int .i64 (a - 1)]) ∧ Below w.heap.size w w' := by
  have hw : IntKind.i64.wrap (a - 1) = a - 1 := IntWalk.i64_in _ (by omega)
  go_enter Tryd.func63, Tryd.ntmps63
  go_wp2
  refine bodyPost_ret (by simp [results, Tryd.results63, go_sem] <;> rfl) rfl ⟨rfl, by go_grown⟩
set_option maxHeartbeats 2000000 in
theorem rd2_is (a b : Int) (w : World) (h0 : 0 ≤ b) (h9 : b ≤ 1048575) :
    Calls Tryd.prog 64 #[.agg #[.int .i64 a, .int .i64 b]] w fun e w' => e = .returned (.agg #[.int .i64 (b + 1), .int .i64 1048575]) ∧ Below w.heap.size w w' := by
  have hw : IntKind.i64.wrap (b + 1) = b + 1 := IntWalk.i64_in _ (by omega)
  go_enter Tryd.func64, Tryd.ntmps64
  go_wp2
  refine bodyPost_ret (by simp [results, Tryd.results64, go_sem] <;> rfl) rfl ⟨rfl, by go_grown⟩

set_option maxHeartbeats 2000000 in
theorem withDays_any (a b : Int) (w : World) :
    Calls Tryd.prog 79 #[.agg #[.int .i64 a, .int .i64 b]] w fun e w' => e = .returned (.tuple #[.agg #[.int .i64 (if okD a b then a else 0), .int .i64 (if okD a b then b else 0)], .int .i64 (if okD a b then 0 else 2)]) ∧ Below w.heap.size w w' := by
  by_cases h : okD a b
  · simp only [if_pos h]
    have D := Lib.hid (Check_any a b)
    rw [chk_yes h] at D
    clear h
    go_enter Tryd.func79, Tryd.ntmps79
    go_wp2_with fail
    refine (D.out _).mono ?_
    rintro e w1 ⟨rfl, hb⟩
    have N := Lib.hid hb
    obtain ⟨c0, c1, f0, f1, z⟩ := keep2 hb
    have g0 := (hb.cell (p := ⟨w.heap.size, 0, none⟩) (by simp; omega)).trans (agg2_new _ _ _ _ _).1
    have g1 := (hb.cell (p := ⟨w.heap.size, 1, none⟩) (by simp; omega)).trans (agg2_new _ _ _ _ _).2
    have B1 : Hid (Below w.heap.size w w1) := (((Below.refl _ w).alloc (Nat.le_refl _) _).alloc (by simp) _).trans (N.out.mono (by simp; omega))
    have zz : w.heap.size + 1 < w1.heap.size := by simpa using z
    rw [World.size_alloc] at c0 c1 f0 f1
    clear hb z
    go_wp2
    refine bodyPost_ret (by simp [results, Tryd.results79, go_sem, set20 c0, set21 c1] <;> rfl) rfl ⟨rfl, ?_⟩
    exact (B1.out.setCell (p := ⟨w.heap.size + 1, 0, none⟩) (by simp) _).setCell (p := ⟨w.heap.size + 1, 1, none⟩) (by simp) _
  · simp only [if_neg h]
    have D := Lib.hid (Check_any a b)
    rw [chk_no h] at D
    clear h
    go_enter Tryd.func79, Tryd.ntmps79
    go_wp2_with fail
    refine (D.out _).mono ?_
    rintro e w1 ⟨rfl, hb⟩
    have N := Lib.hid hb
    obtain ⟨c0, c1, f0, f1, z⟩ := keep2 hb
    have B1 : Hid (Below w.heap.size w w1) := (((Below.refl _ w).alloc (Nat.le_refl _) _).alloc (by simp) _).trans (N.out.mono (by simp; omega))
    have zz : w.heap.size + 1 < w1.heap.size := by simpa using z
    rw [World.size_alloc] at c0 c1 f0 f1
    clear hb z
    go_wp2
    refine bodyPost_ret (by simp [results, Tryd.results79, go_sem, set20 c0, set21 c1] <;> rfl) rfl ⟨rfl, ?_⟩
    exact (B1.out.setCell (p := ⟨w.heap.size + 1, 0, none⟩) (by simp) _).setCell (p := ⟨w.heap.size + 1, 1, none⟩) (by simp) _
end Go.Proofs.YtjpiaccpcmlfnaaDoor
