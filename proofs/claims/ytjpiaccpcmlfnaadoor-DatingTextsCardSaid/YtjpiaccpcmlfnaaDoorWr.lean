/-
  What the readers made of a word answer. No statement of the seat is proved here.
-/
import Derived.Test.YtjpiaccpcmlfnaaDoorWd
import Derived.Test.YtjpiaccpcmlfnaaDoorSh
namespace Go.Proofs.YtjpiaccpcmlfnaaDoor
open Go.RowKit Cal

/-- What is left behind a word. -/
def behind (p s : ByteArray) : ByteArray := ⟨(Lib.trimPrefix s.data.toList p.data.toList).toArray⟩
theorem cell_new2 {w : World} {k : Nat} {v : Value} (o : Obj) (h : w.cell? ⟨k, 0, none⟩ = some v) : (w.alloc o).cell? ⟨k, 0, none⟩ = some v :=
  (World.cell?_alloc_lt _ o ⟨k, 0, none⟩ (World.block_lt_of_cell? w _ h)).trans h
theorem cell_far {w w' : World} {k : Nat} {v : Value} (hb : Below w.heap.size w w') (h : w.cell? ⟨k, 0, none⟩ = some v) : w'.cell? ⟨k, 0, none⟩ = some v :=
  (hb.cell (p := ⟨k, 0, none⟩) (World.block_lt_of_cell? w _ h)).trans h

theorem res2 {w2 : World} {b : Nat} {x y u v : Value} (o : Obj) (r0 : w2.cell? ⟨b, 0, none⟩ = some u) (r1 : w2.cell? ⟨b, 1, none⟩ = some v) :
    (((w2.setCell ⟨b, 0, none⟩ x).setCell ⟨b, 1, none⟩ y).alloc o).cell? ⟨b, 0, none⟩ = some x ∧ (((w2.setCell ⟨b, 0, none⟩ x).setCell ⟨b, 1, none⟩ y).alloc o).cell? ⟨b, 1, none⟩ = some y := by
  have z := World.block_lt_of_cell? w2 _ r0
  have h0 := set20 (x := x) (y := y) r0
  have h1 := set21 (x := x) (y := y) r1
  exact ⟨(World.cell?_alloc_lt _ o ⟨b, 0, none⟩ (World.block_lt_of_cell? _ _ h0)).trans h0, (World.cell?_alloc_lt _ o ⟨b, 1, none⟩ (World.block_lt_of_cell? _ _ h1)).trans h1⟩

set_option maxHeartbeats 2000000 in
theorem word_no (p s : ByteArray) (k : Nat) (w : World) (c0 : w.cell? ⟨k, 0, none⟩ = some (.string p)) (hp : Lib.hasPrefix s.data.toList p.data.toList = false) :
    Calls Tryd.prog 77 #[.string s, .pointer (some ⟨k, 0, none⟩), .pointer (some ⟨k + 1, 0, none⟩)] w fun e w' => e = .returned (.tuple #[.agg #[.int .i64 0, .int .i64 0], .int .i64 3]) ∧ Below w.heap.size w w' := by
  have d0 := cell_new2 (.cells #[.int .i64 0, .int .i64 0] 23) c0
  have zk := World.block_lt_of_cell? w _ c0
  have HP := Lib.hid hp
  clear c0 hp
  go_enter Tryd.func77, Tryd.ntmps77
  go_wp2_with fail
  refine (Tryd.strings_CutPrefix s p _).mono ?_
  rintro e w1 ⟨rfl, rfl⟩
  rw [HP.out]
  go_wp2
  refine bodyPost_ret (by simp [results, Tryd.results77, go_sem] <;> rfl) rfl ⟨rfl, by go_grown⟩

set_option maxHeartbeats 2000000 in
theorem word_bad (p s : ByteArray) (k : Nat) (w : World) (hT : Table w) (c0 : w.cell? ⟨k, 0, none⟩ = some (.string p)) (hp : Lib.hasPrefix s.data.toList p.data.toList = true) (h : perE (behind p s) ≠ 0) :
    Calls Tryd.prog 77 #[.string s, .pointer (some ⟨k, 0, none⟩), .pointer (some ⟨k + 1, 0, none⟩)] w fun e w' => e = .returned (.tuple #[.agg #[.int .i64 0, .int .i64 0], .int .i64 (perE (behind p s))]) ∧ Below w.heap.size w w' := by
  have d0 := cell_new2 (.cells #[.int .i64 0, .int .i64 0] 23) c0
  have zk := World.block_lt_of_cell? w _ c0
  have HP := Lib.hid hp
  have T1 : Hid (Table (w.alloc (.cells #[.int .i64 0, .int .i64 0] 23))) := hT.below ((Below.refl w.heap.size w).alloc (Nat.le_refl _) _)
  have D := Lib.hid (readPeriod_any (behind p s))
  obtain ⟨E, hE⟩ : ∃ E, E = perE (behind p s) := ⟨_, rfl⟩
  obtain ⟨F, hF⟩ : ∃ E, E = perF (behind p s) := ⟨_, rfl⟩
  obtain ⟨L, hL⟩ : ∃ E, E = perL (behind p s) := ⟨_, rfl⟩
  rw [← hE] at h D ⊢
  rw [← hF, ← hL] at D
  have b0 : (E != 0) = true := by simpa using h
  clear c0 hp h hE hF hL
  go_enter Tryd.func77, Tryd.ntmps77
  go_wp2_with fail
  refine (Tryd.strings_CutPrefix s p _).mono ?_
  rintro e w1 ⟨rfl, rfl⟩
  rw [HP.out]
  go_wp2_with fail
  refine (D.out _ T1.out).mono ?_
  rintro e w2 ⟨rfl, hb⟩
  have N := Lib.hid hb
  obtain ⟨r0, r1, f0, f1, z⟩ := keep2 hb
  have B2 : Hid (Below w.heap.size w w2) := ((Below.refl _ w).alloc (Nat.le_refl _) _).trans (N.out.mono (by simp))
  clear hb
  go_wp2
  have q := res2 (x := .int .i64 0) (y := .int .i64 0) (.cells #[.int .i64 F, .int .i64 L] 23) r0 r1
  refine bodyPost_ret (by simp [results, Tryd.results77, go_sem, q.1, q.2] <;> rfl) rfl ⟨rfl, ?_⟩
  exact ((B2.out.setCell (p := ⟨w.heap.size, 0, none⟩) (Nat.le_refl _) _).setCell (p := ⟨w.heap.size, 1, none⟩) (Nat.le_refl _) _).alloc (by simpa using B2.out.size) _

set_option maxRecDepth 100000 in
set_option maxHeartbeats 2000000 in
theorem word_ok63 (p s : ByteArray) (k : Nat) (X Y F L : Int) (w : World) (hT : Table w) (c0 : w.cell? ⟨k, 0, none⟩ = some (.string p)) (c1 : w.cell? ⟨k + 1, 0, none⟩ = some (.func (.func 63) #[] #[])) (hp : Lib.hasPrefix s.data.toList p.data.toList = true)
    (hE : perE (behind p s) = 0) (hF : perF (behind p s) = F) (hL : perL (behind p s) = L)
    (D2 : Hid (∀ w, Calls Tryd.prog 63 #[.agg #[.int .i64 F, .int .i64 L]] w fun e w' => e = .returned (.agg #[.int .i64 X, .int .i64 Y]) ∧ Below w.heap.size w w')) :
    Calls Tryd.prog 77 #[.string s, .pointer (some ⟨k, 0, none⟩), .pointer (some ⟨k + 1, 0, none⟩)] w fun e w' => e = .returned (.tuple #[.agg #[.int .i64 (if okD X Y then X else 0), .int .i64 (if okD X Y then Y else 0)], .int .i64 (if okD X Y then 0 else 2)]) ∧ Below w.heap.size w w' := by
  have d0 := cell_new2 (.cells #[.int .i64 0, .int .i64 0] 23) c0
  have d1 := cell_new2 (.cells #[.int .i64 0, .int .i64 0] 23) c1
  have zk := World.block_lt_of_cell? w _ c0
  have zk1 := World.block_lt_of_cell? w _ c1
  have HP := Lib.hid hp
  have T1 : Hid (Table (w.alloc (.cells #[.int .i64 0, .int .i64 0] 23))) := hT.below ((Below.refl w.heap.size w).alloc (Nat.le_refl _) _)
  have D := Lib.hid (readPeriod_any (behind p s))
  rw [hE, hF, hL] at D
  have D3 := Lib.hid (withDays_any X Y)
  obtain ⟨P, hP⟩ : ∃ P, P = (if okD X Y then X else 0) := ⟨_, rfl⟩
  obtain ⟨Q, hQ⟩ : ∃ P, P = (if okD X Y then Y else 0) := ⟨_, rfl⟩
  obtain ⟨R, hR⟩ : ∃ P : Int, P = (if okD X Y then 0 else 2) := ⟨_, rfl⟩
  rw [← hP, ← hQ, ← hR] at D3 ⊢
  clear c0 c1 hp hE hF hL hP hQ hR
  go_enter Tryd.func77, Tryd.ntmps77
  go_wp2_with fail
  refine (Tryd.strings_CutPrefix s p _).mono ?_
  rintro e w1 ⟨rfl, rfl⟩
  rw [HP.out]
  go_wp2_with fail
  refine (D.out _ T1.out).mono ?_
  rintro e w2 ⟨rfl, hb⟩
  have N := Lib.hid hb
  obtain ⟨r0, r1, f0, f1, z⟩ := keep2 hb
  have B2 : Hid (Below w.heap.size w w2) := ((Below.refl _ w).alloc (Nat.le_refl _) _).trans (N.out.mono (by simp))
  have g1 := cell_far hb d1
  have g2 := cell_new2 (.cells #[.int .i64 F, .int .i64 L] 23) g1
  have zz2 := World.block_lt_of_cell? _ _ g1
  have B3 : Hid (Below w2.heap.size w2 (w2.alloc (.cells #[.int .i64 F, .int .i64 L] 23))) := (Below.refl _ _).alloc (Nat.le_refl _) _
  have HR : Hid ((w2.cell? ⟨w.heap.size, 0, none⟩ = some (.int .i64 0) ∧ w2.cell? ⟨w.heap.size, 1, none⟩ = some (.int .i64 0)) ∧ w2.frozen? ⟨w.heap.size, 0, none⟩ = false ∧ w2.frozen? ⟨w.heap.size, 1, none⟩ = false) := ⟨⟨r0, r1⟩, f0, f1⟩
  clear hb d0 d1 r0 r1 f0 f1
  go_wp2_with fail
  refine (D2.out _).mono ?_
  rintro e w4 ⟨rfl, hb⟩
  have B4 : Hid (Below w2.heap.size w2 w4) := B3.out.trans (hb.mono B3.out.size)
  clear hb
  go_wp2_with fail
  refine (D3.out _).mono ?_
  rintro e w5 ⟨rfl, hb⟩
  have B5 : Hid (Below w2.heap.size w2 w5) := B4.out.trans (hb.mono B4.out.size)
  have r0 := (B5.out.cell (p := ⟨w.heap.size, 0, none⟩) z).trans HR.out.1.1
  have r1 := (B5.out.cell (p := ⟨w.heap.size, 1, none⟩) z).trans HR.out.1.2
  have f0 := (B5.out.frozen (p := ⟨w.heap.size, 0, none⟩) z).trans HR.out.2.1
  have f1 := (B5.out.frozen (p := ⟨w.heap.size, 1, none⟩) z).trans HR.out.2.2
  clear hb g1 g2
  go_wp2_with fail
  refine bodyPost_ret (by simp [results, Tryd.results77, go_sem, set20 r0, set21 r1] <;> rfl) rfl ⟨rfl, ?_⟩
  exact ((B2.out.trans (B5.out.mono B2.out.size)).setCell (p := ⟨w.heap.size, 0, none⟩) (Nat.le_refl _) _).setCell (p := ⟨w.heap.size, 1, none⟩) (Nat.le_refl _) _
set_option maxRecDepth 100000 in
set_option maxHeartbeats 2000000 in
theorem word_ok64 (p s : ByteArray) (k : Nat) (X Y F L : Int) (w : World) (hT : Table w) (c0 : w.cell? ⟨k, 0, none⟩ = some (.string p)) (c1 : w.cell? ⟨k + 1, 0, none⟩ = some (.func (.func 64) #[] #[])) (hp : Lib.hasPrefix s.data.toList p.data.toList = true)
    (hE : perE (behind p s) = 0) (hF : perF (behind p s) = F) (hL : perL (behind p s) = L)
    (D2 : Hid (∀ w, Calls Tryd.prog 64 #[.agg #[.int .i64 F, .int .i64 L]] w fun e w' => e = .returned (.agg #[.int .i64 X, .int .i64 Y]) ∧ Below w.heap.size w w')) :
    Calls Tryd.prog 77 #[.string s, .pointer (some ⟨k, 0, none⟩), .pointer (some ⟨k + 1, 0, none⟩)] w fun e w' => e = .returned (.tuple #[.agg #[.int .i64 (if okD X Y then X else 0), .int .i64 (if okD X Y then Y else 0)], .int .i64 (if okD X Y then 0 else 2)]) ∧ Below w.heap.size w w' := by
  have d0 := cell_new2 (.cells #[.int .i64 0, .int .i64 0] 23) c0
  have d1 := cell_new2 (.cells #[.int .i64 0, .int .i64 0] 23) c1
  have zk := World.block_lt_of_cell? w _ c0
  have zk1 := World.block_lt_of_cell? w _ c1
  have HP := Lib.hid hp
  have T1 : Hid (Table (w.alloc (.cells #[.int .i64 0, .int .i64 0] 23))) := hT.below ((Below.refl w.heap.size w).alloc (Nat.le_refl _) _)
  have D := Lib.hid (readPeriod_any (behind p s))
  rw [hE, hF, hL] at D
  have D3 := Lib.hid (withDays_any X Y)
  obtain ⟨P, hP⟩ : ∃ P, P = (if okD X Y then X else 0) := ⟨_, rfl⟩
  obtain ⟨Q, hQ⟩ : ∃ P, P = (if okD X Y then Y else 0) := ⟨_, rfl⟩
  obtain ⟨R, hR⟩ : ∃ P : Int, P = (if okD X Y then 0 else 2) := ⟨_, rfl⟩
  rw [← hP, ← hQ, ← hR] at D3 ⊢
  clear c0 c1 hp hE hF hL hP hQ hR
  go_enter Tryd.func77, Tryd.ntmps77
  go_wp2_with fail
  refine (Tryd.strings_CutPrefix s p _).mono ?_
  rintro e w1 ⟨rfl, rfl⟩
  rw [HP.out]
  go_wp2_with fail
  refine (D.out _ T1.out).mono ?_
  rintro e w2 ⟨rfl, hb⟩
  have N := Lib.hid hb
  obtain ⟨r0, r1, f0, f1, z⟩ := keep2 hb
  have B2 : Hid (Below w.heap.size w w2) := ((Below.refl _ w).alloc (Nat.le_refl _) _).trans (N.out.mono (by simp))
  have g1 := cell_far hb d1
  have g2 := cell_new2 (.cells #[.int .i64 F, .int .i64 L] 23) g1
  have zz2 := World.block_lt_of_cell? _ _ g1
  have B3 : Hid (Below w2.heap.size w2 (w2.alloc (.cells #[.int .i64 F, .int .i64 L] 23))) := (Below.refl _ _).alloc (Nat.le_refl _) _
  have HR : Hid ((w2.cell? ⟨w.heap.size, 0, none⟩ = some (.int .i64 0) ∧ w2.cell? ⟨w.heap.size, 1, none⟩ = some (.int .i64 0)) ∧ w2.frozen? ⟨w.heap.size, 0, none⟩ = false ∧ w2.frozen? ⟨w.heap.size, 1, none⟩ = false) := ⟨⟨r0, r1⟩, f0, f1⟩
  clear hb d0 d1 r0 r1 f0 f1
  go_wp2_with fail
  refine (D2.out _).mono ?_
  rintro e w4 ⟨rfl, hb⟩
  have B4 : Hid (Below w2.heap.size w2 w4) := B3.out.trans (hb.mono B3.out.size)
  clear hb
  go_wp2_with fail
  refine (D3.out _).mono ?_
  rintro e w5 ⟨rfl, hb⟩
  have B5 : Hid (Below w2.heap.size w2 w5) := B4.out.trans (hb.mono B4.out.size)
  have r0 := (B5.out.cell (p := ⟨w.heap.size, 0, none⟩) z).trans HR.out.1.1
  have r1 := (B5.out.cell (p := ⟨w.heap.size, 1, none⟩) z).trans HR.out.1.2
  have f0 := (B5.out.frozen (p := ⟨w.heap.size, 0, none⟩) z).trans HR.out.2.1
  have f1 := (B5.out.frozen (p := ⟨w.heap.size, 1, none⟩) z).trans HR.out.2.2
  clear hb g1 g2
  go_wp2_with fail
  refine bodyPost_ret (by simp [results, Tryd.results77, go_sem, set20 r0, set21 r1] <;> rfl) rfl ⟨rfl, ?_⟩
  exact ((B2.out.trans (B5.out.mono B2.out.size)).setCell (p := ⟨w.heap.size, 0, none⟩) (Nat.le_refl _) _).setCell (p := ⟨w.heap.size, 1, none⟩) (Nat.le_refl _) _
end Go.Proofs.YtjpiaccpcmlfnaaDoor
