/-
  What periodsAround answers: the year, the month and the day in which a day is. No statement of the seat is proved here.
-/
import Derived.Test.YtjpiaccpcmlfnaaDoorPer2
import Derived.BigRegion
namespace Go.Proofs.YtjpiaccpcmlfnaaDoor
open Go.RowKit Cal
open Classical

/-- What a block of nine cells holds. -/
def Holds9 (w : World) (b : Nat) (vs : Nat → Value) : Prop := ∀ i : Nat, i < 9 → w.cell? ⟨b, i, none⟩ = some (vs i) ∧ w.frozen? ⟨b, i, none⟩ = false
theorem Holds9.lt {w : World} {b : Nat} {vs : Nat → Value} (h : Holds9 w b vs) : b < w.heap.size := World.block_lt_of_cell? w ⟨b, 0, none⟩ (h 0 (by omega)).1
theorem Holds9.below {w w' : World} {b B : Nat} {vs : Nat → Value} (h : Holds9 w b vs) (hb : Below B w w') (hB : b < B) : Holds9 w' b vs := fun i hi =>
  ⟨(hb.cell (p := ⟨b, i, none⟩) hB).trans (h i hi).1, (hb.frozen (p := ⟨b, i, none⟩) hB).trans (h i hi).2⟩
theorem Holds9.drew {w : World} {b : Nat} {vs : Nat → Value} (h : Holds9 w b vs) : Holds9 w.drew b vs := h
theorem Holds9.alloc {w : World} {b : Nat} {vs : Nat → Value} (h : Holds9 w b vs) (o : Obj) : Holds9 (w.alloc o) b vs := h.below ((Below.refl _ _).alloc (Nat.le_refl _) o) h.lt
theorem Holds9.put {w : World} {b : Nat} {vs : Nat → Value} (h : Holds9 w b vs) (o : Nat) (ho : o < 9) (x : Value) : Holds9 (w.setCell ⟨b, o, none⟩ x) b (fun j => if j = o then x else vs j) := fun i hi => by
  refine ⟨?_, (World.frozen?_setCell _ _ _ _).trans (h i hi).2⟩
  by_cases e : i = o
  · subst e
    rw [World.cell?_setCell_same _ _ _ (h i hi).1]
    simp
  · rw [World.cell?_setCell_other _ _ _ _ (fun k => e (congrArg Addr.off k).symm), (h i hi).1]
    exact congrArg some (if_neg e).symm
theorem Holds9.other {w : World} {b c : Nat} {vs : Nat → Value} (h : Holds9 w b vs) (hc : c ≠ b) (o : Nat) (x : Value) : Holds9 (w.setCell ⟨c, o, none⟩ x) b vs := fun i hi => by
  refine ⟨?_, (World.frozen?_setCell _ _ _ _).trans (h i hi).2⟩
  rw [World.cell?_setCell_other _ _ _ _ (fun k => hc (congrArg Addr.block k)), (h i hi).1]
theorem put9 {V : World} {b : Nat} {vs : Nat → Value} (h : Holds9 V b vs) (x0 x1 x2 x3 x4 x5 x6 x7 x8 : Value) :
    (((((((((V.setCell ⟨b, 0, none⟩ x0).setCell ⟨b, 1, none⟩ x1).setCell ⟨b, 2, none⟩ x2).setCell ⟨b, 3, none⟩ x3).setCell ⟨b, 4, none⟩ x4).setCell ⟨b, 5, none⟩ x5).setCell ⟨b, 6, none⟩ x6).setCell ⟨b, 7, none⟩ x7).setCell ⟨b, 8, none⟩ x8).cell? ⟨b, 0, none⟩ = some x0 ∧ (((((((((V.setCell ⟨b, 0, none⟩ x0).setCell ⟨b, 1, none⟩ x1).setCell ⟨b, 2, none⟩ x2).setCell ⟨b, 3, none⟩ x3).setCell ⟨b, 4, none⟩ x4).setCell ⟨b, 5, none⟩ x5).setCell ⟨b, 6, none⟩ x6).setCell ⟨b, 7, none⟩ x7).setCell ⟨b, 8, none⟩ x8).cell? ⟨b, 1, none⟩ = some x1 ∧ (((((((((V.setCell ⟨b, 0, none⟩ x0).setCell ⟨b, 1, none⟩ x1).setCell ⟨b, 2, none⟩ x2).setCell ⟨b, 3, none⟩ x3).setCell ⟨b, 4, none⟩ x4).setCell ⟨b, 5, none⟩ x5).setCell ⟨b, 6, none⟩ x6).setCell ⟨b, 7, none⟩ x7).setCell ⟨b, 8, none⟩ x8).cell? ⟨b, 2, none⟩ = some x2 ∧ (((((((((V.setCell ⟨b, 0, none⟩ x0).setCell ⟨b, 1, none⟩ x1).setCell ⟨b, 2, none⟩ x2).setCell ⟨b, 3, none⟩ x3).setCell ⟨b, 4, none⟩ x4).setCell ⟨b, 5, none⟩ x5).setCell ⟨b, 6, none⟩ x6).setCell ⟨b, 7, none⟩ x7).setCell ⟨b, 8, none⟩ x8).cell? ⟨b, 3, none⟩ = some x3 ∧ (((((((((V.setCell ⟨b, 0, none⟩ x0).setCell ⟨b, 1, none⟩ x1).setCell ⟨b, 2, none⟩ x2).setCell ⟨b, 3, none⟩ x3).setCell ⟨b, 4, none⟩ x4).setCell ⟨b, 5, none⟩ x5).setCell ⟨b, 6, none⟩ x6).setCell ⟨b, 7, none⟩ x7).setCell ⟨b, 8, none⟩ x8).cell? ⟨b, 4, none⟩ = some x4 ∧ (((((((((V.setCell ⟨b, 0, none⟩ x0).setCell ⟨b, 1, none⟩ x1).setCell ⟨b, 2, none⟩ x2).setCell ⟨b, 3, none⟩ x3).setCell ⟨b, 4, none⟩ x4).setCell ⟨b, 5, none⟩ x5).setCell ⟨b, 6, none⟩ x6).setCell ⟨b, 7, none⟩ x7).setCell ⟨b, 8, none⟩ x8).cell? ⟨b, 5, none⟩ = some x5 ∧ (((((((((V.setCell ⟨b, 0, none⟩ x0).setCell ⟨b, 1, none⟩ x1).setCell ⟨b, 2, none⟩ x2).setCell ⟨b, 3, none⟩ x3).setCell ⟨b, 4, none⟩ x4).setCell ⟨b, 5, none⟩ x5).setCell ⟨b, 6, none⟩ x6).setCell ⟨b, 7, none⟩ x7).setCell ⟨b, 8, none⟩ x8).cell? ⟨b, 6, none⟩ = some x6 ∧ (((((((((V.setCell ⟨b, 0, none⟩ x0).setCell ⟨b, 1, none⟩ x1).setCell ⟨b, 2, none⟩ x2).setCell ⟨b, 3, none⟩ x3).setCell ⟨b, 4, none⟩ x4).setCell ⟨b, 5, none⟩ x5).setCell ⟨b, 6, none⟩ x6).setCell ⟨b, 7, none⟩ x7).setCell ⟨b, 8, none⟩ x8).cell? ⟨b, 7, none⟩ = some x7 ∧ (((((((((V.setCell ⟨b, 0, none⟩ x0).setCell ⟨b, 1, none⟩ x1).setCell ⟨b, 2, none⟩ x2).setCell ⟨b, 3, none⟩ x3).setCell ⟨b, 4, none⟩ x4).setCell ⟨b, 5, none⟩ x5).setCell ⟨b, 6, none⟩ x6).setCell ⟨b, 7, none⟩ x7).setCell ⟨b, 8, none⟩ x8).cell? ⟨b, 8, none⟩ = some x8 := by
  have F := (((((((((h.put 0 (by omega) x0).put 1 (by omega) x1).put 2 (by omega) x2).put 3 (by omega) x3).put 4 (by omega) x4).put 5 (by omega) x5).put 6 (by omega) x6).put 7 (by omega) x7).put 8 (by omega) x8)
  exact ⟨(F 0 (by omega)).1.trans rfl, (F 1 (by omega)).1.trans rfl, (F 2 (by omega)).1.trans rfl, (F 3 (by omega)).1.trans rfl, (F 4 (by omega)).1.trans rfl, (F 5 (by omega)).1.trans rfl, (F 6 (by omega)).1.trans rfl, (F 7 (by omega)).1.trans rfl, (F 8 (by omega)).1.trans rfl⟩
theorem below9 {V w : World} {b : Nat} (h : Below b w V) (x0 x1 x2 x3 x4 x5 x6 x7 x8 : Value) : Below b w (((((((((V.setCell ⟨b, 0, none⟩ x0).setCell ⟨b, 1, none⟩ x1).setCell ⟨b, 2, none⟩ x2).setCell ⟨b, 3, none⟩ x3).setCell ⟨b, 4, none⟩ x4).setCell ⟨b, 5, none⟩ x5).setCell ⟨b, 6, none⟩ x6).setCell ⟨b, 7, none⟩ x7).setCell ⟨b, 8, none⟩ x8) := by
  exact (((((((((h.setCell (p := ⟨b, 0, none⟩) (Nat.le_refl _) x0).setCell (p := ⟨b, 1, none⟩) (Nat.le_refl _) x1).setCell (p := ⟨b, 2, none⟩) (Nat.le_refl _) x2).setCell (p := ⟨b, 3, none⟩) (Nat.le_refl _) x3).setCell (p := ⟨b, 4, none⟩) (Nat.le_refl _) x4).setCell (p := ⟨b, 5, none⟩) (Nat.le_refl _) x5).setCell (p := ⟨b, 6, none⟩) (Nat.le_refl _) x6).setCell (p := ⟨b, 7, none⟩) (Nat.le_refl _) x7).setCell (p := ⟨b, 8, none⟩) (Nat.le_refl _) x8)

def z9 (i : Nat) : Value := if i = 0 ∨ i = 3 ∨ i = 6 then .string { data := #[] } else .int .i64 0
theorem ix0 (w : World) : (Instr.index 78 (.agg #[.int .i64 4, .int .i64 7, .int .i64 10]) (.int .i64 0)).run Tryd.prog w = .ok (.int .i64 4) w := by kernel_rfl
theorem ix1 (w : World) : (Instr.index 78 (.agg #[.int .i64 4, .int .i64 7, .int .i64 10]) (.int .i64 1)).run Tryd.prog w = .ok (.int .i64 7) w := by kernel_rfl
theorem ix2 (w : World) : (Instr.index 78 (.agg #[.int .i64 4, .int .i64 7, .int .i64 10]) (.int .i64 2)).run Tryd.prog w = .ok (.int .i64 10) w := by kernel_rfl
theorem holds9_new (w : World) : Holds9 (w.alloc (.cells #[.string { data := #[] }, .int .i64 0, .int .i64 0, .string { data := #[] }, .int .i64 0, .int .i64 0, .string { data := #[] }, .int .i64 0, .int .i64 0] 67)) w.heap.size z9 := fun i hi => by
  refine ⟨?_, World.frozen?_alloc_new _ _ _ _⟩
  rw [World.cell?_alloc_new]
  have : i = 0 ∨ i = 1 ∨ i = 2 ∨ i = 3 ∨ i = 4 ∨ i = 5 ∨ i = 6 ∨ i = 7 ∨ i = 8 := by omega
  rcases this with h | h | h | h | h | h | h | h | h <;> subst h <;> rfl
/-- The value of a period. -/
noncomputable def pS (s : ByteArray) : Value := .string s
/-- The three periods around a day. -/
noncomputable def arr9 (s : ByteArray) : Array Value := #[.string (s.extract 0 4), .int .i64 (perF (s.extract 0 4)), .int .i64 (perL (s.extract 0 4)), .string (s.extract 0 7), .int .i64 (perF (s.extract 0 7)), .int .i64 (perL (s.extract 0 7)), .string (s.extract 0 10), .int .i64 (perF (s.extract 0 10)), .int .i64 (perL (s.extract 0 10))]

set_option maxHeartbeats 4000000 in
theorem around_is (n y m d : Int) (w : World) (hT : Table w) (h1 : 0 ≤ n) (h2 : n ≤ 1048575) (h : IsDate n y m d) :
    Calls Tryd.prog 53 #[.int .i64 n] w fun e w' => e = .returned (.agg (arr9 (strOfNums (txt y m d)))) ∧ Below w.heap.size w w' := by
  have HT := Lib.hid hT
  have HI := Lib.hid h
  have hlt := hT.lt
  have z0 : (strOfNums (txt y m d)).size = 10 := by rw [strOfNums_size]; rfl
  clear hT h
  have i0 := ix0; have i1 := ix1; have i2 := ix2
  go_enter Tryd.func53, Tryd.ntmps53
  go_wp2_with fail
  refine (Format_is _ _ _ _ _ (HT.out.below (by (repeat (first | with_reducible exact Below.refl _ _ | with_reducible assumption | refine Below.alloc ?_ (by first | exact Nat.le_refl _ | (simp; done) | (simp; omega)) _ | refine Below.setCell ?_ (by first | exact Nat.le_refl _ | (simp; done) | (simp; omega)) _)))) (by omega) (by omega) HI.out).mono ?_
  rintro e w1 ⟨rfl, hb1⟩
  have B1 : Hid (Below w.heap.size w w1) := ((Below.refl _ w).alloc (Nat.le_refl _) _ |>.alloc (by simp) _).trans (hb1.mono (by simp; omega))
  have T1 := Lib.hid (HT.out.below B1.out)
  have R1 : Hid (Holds9 w1 w.heap.size z9) := ((holds9_new w).alloc _).below hb1 (by simp; omega)
  have A1 : Hid (Holds9 w1 (w.heap.size + 1) z9) := by
    have := (holds9_new (w.alloc (.cells #[.string { data := #[] }, .int .i64 0, .int .i64 0, .string { data := #[] }, .int .i64 0, .int .i64 0, .string { data := #[] }, .int .i64 0, .int .i64 0] 67))).below hb1 (by simp)
    have e : (w.alloc (.cells #[.string { data := #[] }, .int .i64 0, .int .i64 0, .string { data := #[] }, .int .i64 0, .int .i64 0, .string { data := #[] }, .int .i64 0, .int .i64 0] 67)).heap.size = w.heap.size + 1 := by simp
    rw [e] at this
    exact this
  have s1 : w.heap.size + 1 < w1.heap.size := A1.out.lt
  clear hb1
  go_wp2_with fail
  refine wp_loop_rounds 4 ?_
  rw [rounds_succ]
  go_wp2_with fail
  refine (readPeriod_any _ w1 T1.out).mono ?_
  rintro e w2 ⟨rfl, hb⟩
  have B2 : Hid (Below w.heap.size w w2) := B1.out.trans (hb.mono (by omega))
  have T2 := Lib.hid (HT.out.below B2.out)
  have R2 := Lib.hid (R1.out.below hb (by omega))
  have A2 := Lib.hid (A1.out.below hb (by omega))
  have s2 : w.heap.size + 1 < w2.heap.size := A2.out.lt
  clear hb
  obtain ⟨c0, f0⟩ := A2.out 0 (by omega)
  obtain ⟨c1, f1⟩ := A2.out 1 (by omega)
  obtain ⟨c2, f2⟩ := A2.out 2 (by omega)
  go_wp2_with fail
  go_region
  clear c0 c1 c2 f0 f1 f2
  go_wp2_with fail
  rw [rounds_succ]
  go_wp2_with fail
  refine (readPeriod_any _ _ (HT.out.below (((((B2.out.setCell (p := ⟨w.heap.size + 1, 0, none⟩) (by simp) _).setCell (p := ⟨w.heap.size + 1, 1, none⟩) (by simp) _).setCell (p := ⟨w.heap.size + 1, 2, none⟩) (by simp) _).alloc (by simp; omega) _).drew))).mono ?_
  rintro e w3 ⟨rfl, hb⟩
  have B3 : Hid (Below w.heap.size w w3) := (((((B2.out.setCell (p := ⟨w.heap.size + 1, 0, none⟩) (by simp) _).setCell (p := ⟨w.heap.size + 1, 1, none⟩) (by simp) _).setCell (p := ⟨w.heap.size + 1, 2, none⟩) (by simp) _).alloc (by simp; omega) _).drew).trans (hb.mono (by simp; omega))
  have T3 := Lib.hid (HT.out.below B3.out)
  have R3 := Lib.hid ((((((R2.out.other (by omega) 0 _).other (by omega) 1 _).other (by omega) 2 _).alloc _).drew).below hb (by simp; omega))
  have A3 := Lib.hid ((((((A2.out.put 0 (by omega) _).put 1 (by omega) _).put 2 (by omega) _).alloc _).drew).below hb (by simp; omega))
  have s3 : w.heap.size + 1 < w3.heap.size := A3.out.lt
  clear hb
  obtain ⟨c0, f0⟩ := A3.out 3 (by omega)
  obtain ⟨c1, f1⟩ := A3.out 4 (by omega)
  obtain ⟨c2, f2⟩ := A3.out 5 (by omega)
  go_wp2_with fail
  go_region
  clear c0 c1 c2 f0 f1 f2
  go_wp2_with fail
  rw [rounds_succ]
  go_wp2_with fail
  refine (readPeriod_any _ _ (HT.out.below (((((B3.out.setCell (p := ⟨w.heap.size + 1, 3, none⟩) (by simp) _).setCell (p := ⟨w.heap.size + 1, 4, none⟩) (by simp) _).setCell (p := ⟨w.heap.size + 1, 5, none⟩) (by simp) _).alloc (by simp; omega) _).drew))).mono ?_
  rintro e w4 ⟨rfl, hb⟩
  have B4 : Hid (Below w.heap.size w w4) := (((((B3.out.setCell (p := ⟨w.heap.size + 1, 3, none⟩) (by simp) _).setCell (p := ⟨w.heap.size + 1, 4, none⟩) (by simp) _).setCell (p := ⟨w.heap.size + 1, 5, none⟩) (by simp) _).alloc (by simp; omega) _).drew).trans (hb.mono (by simp; omega))
  have T4 := Lib.hid (HT.out.below B4.out)
  have R4 := Lib.hid ((((((R3.out.other (by omega) 3 _).other (by omega) 4 _).other (by omega) 5 _).alloc _).drew).below hb (by simp; omega))
  have A4 := Lib.hid ((((((A3.out.put 3 (by omega) _).put 4 (by omega) _).put 5 (by omega) _).alloc _).drew).below hb (by simp; omega))
  have s4 : w.heap.size + 1 < w4.heap.size := A4.out.lt
  clear hb
  obtain ⟨c0, f0⟩ := A4.out 6 (by omega)
  obtain ⟨c1, f1⟩ := A4.out 7 (by omega)
  obtain ⟨c2, f2⟩ := A4.out 8 (by omega)
  go_wp2_with fail
  go_region
  clear c0 c1 c2 f0 f1 f2
  obtain ⟨V, hV⟩ : ∃ V : World, (((((w4.setCell ⟨w.heap.size + 1, 6, none⟩ (.string ((strOfNums (txt y m d)).extract 0 10))).setCell ⟨w.heap.size + 1, 7, none⟩ (.int .i64 (perF ((strOfNums (txt y m d)).extract 0 10)))).setCell ⟨w.heap.size + 1, 8, none⟩ (.int .i64 (perL ((strOfNums (txt y m d)).extract 0 10)))).alloc (.cells #[(.int .i64 (perF ((strOfNums (txt y m d)).extract 0 10))), (.int .i64 (perL ((strOfNums (txt y m d)).extract 0 10)))] 23)).drew) = V := ⟨_, rfl⟩
  have A5 : Hid (Holds9 (((((w4.setCell ⟨w.heap.size + 1, 6, none⟩ (.string ((strOfNums (txt y m d)).extract 0 10))).setCell ⟨w.heap.size + 1, 7, none⟩ (.int .i64 (perF ((strOfNums (txt y m d)).extract 0 10)))).setCell ⟨w.heap.size + 1, 8, none⟩ (.int .i64 (perL ((strOfNums (txt y m d)).extract 0 10)))).alloc (.cells #[(.int .i64 (perF ((strOfNums (txt y m d)).extract 0 10))), (.int .i64 (perL ((strOfNums (txt y m d)).extract 0 10)))] 23)).drew) (w.heap.size + 1) _) := ((((A4.out.put 6 (by omega) (.string ((strOfNums (txt y m d)).extract 0 10))).put 7 (by omega) (.int .i64 (perF ((strOfNums (txt y m d)).extract 0 10)))).put 8 (by omega) (.int .i64 (perL ((strOfNums (txt y m d)).extract 0 10)))).alloc (.cells #[(.int .i64 (perF ((strOfNums (txt y m d)).extract 0 10))), (.int .i64 (perL ((strOfNums (txt y m d)).extract 0 10)))] 23)).drew
  have R5 : Hid (Holds9 (((((w4.setCell ⟨w.heap.size + 1, 6, none⟩ (.string ((strOfNums (txt y m d)).extract 0 10))).setCell ⟨w.heap.size + 1, 7, none⟩ (.int .i64 (perF ((strOfNums (txt y m d)).extract 0 10)))).setCell ⟨w.heap.size + 1, 8, none⟩ (.int .i64 (perL ((strOfNums (txt y m d)).extract 0 10)))).alloc (.cells #[(.int .i64 (perF ((strOfNums (txt y m d)).extract 0 10))), (.int .i64 (perL ((strOfNums (txt y m d)).extract 0 10)))] 23)).drew) w.heap.size z9) := ((((R4.out.other (by omega) 6 (.string ((strOfNums (txt y m d)).extract 0 10))).other (by omega) 7 (.int .i64 (perF ((strOfNums (txt y m d)).extract 0 10)))).other (by omega) 8 (.int .i64 (perL ((strOfNums (txt y m d)).extract 0 10)))).alloc (.cells #[(.int .i64 (perF ((strOfNums (txt y m d)).extract 0 10))), (.int .i64 (perL ((strOfNums (txt y m d)).extract 0 10)))] 23)).drew
  have B5 : Hid (Below w.heap.size w (((((w4.setCell ⟨w.heap.size + 1, 6, none⟩ (.string ((strOfNums (txt y m d)).extract 0 10))).setCell ⟨w.heap.size + 1, 7, none⟩ (.int .i64 (perF ((strOfNums (txt y m d)).extract 0 10)))).setCell ⟨w.heap.size + 1, 8, none⟩ (.int .i64 (perL ((strOfNums (txt y m d)).extract 0 10)))).alloc (.cells #[(.int .i64 (perF ((strOfNums (txt y m d)).extract 0 10))), (.int .i64 (perL ((strOfNums (txt y m d)).extract 0 10)))] 23)).drew)) := ((((B4.out.setCell (p := ⟨w.heap.size + 1, 6, none⟩) (by simp) (.string ((strOfNums (txt y m d)).extract 0 10))).setCell (p := ⟨w.heap.size + 1, 7, none⟩) (by simp) (.int .i64 (perF ((strOfNums (txt y m d)).extract 0 10)))).setCell (p := ⟨w.heap.size + 1, 8, none⟩) (by simp) (.int .i64 (perL ((strOfNums (txt y m d)).extract 0 10)))).alloc (by simp; omega) (.cells #[(.int .i64 (perF ((strOfNums (txt y m d)).extract 0 10))), (.int .i64 (perL ((strOfNums (txt y m d)).extract 0 10)))] 23)).drew
  rw [hV] at A5 R5 B5
  rw [hV]
  clear hV
  obtain ⟨c0, f0⟩ := A5.out 0 (by omega)
  obtain ⟨r0, g0⟩ := R5.out 0 (by omega)
  obtain ⟨c1, f1⟩ := A5.out 1 (by omega)
  obtain ⟨r1, g1⟩ := R5.out 1 (by omega)
  obtain ⟨c2, f2⟩ := A5.out 2 (by omega)
  obtain ⟨r2, g2⟩ := R5.out 2 (by omega)
  obtain ⟨c3, f3⟩ := A5.out 3 (by omega)
  obtain ⟨r3, g3⟩ := R5.out 3 (by omega)
  obtain ⟨c4, f4⟩ := A5.out 4 (by omega)
  obtain ⟨r4, g4⟩ := R5.out 4 (by omega)
  obtain ⟨c5, f5⟩ := A5.out 5 (by omega)
  obtain ⟨r5, g5⟩ := R5.out 5 (by omega)
  obtain ⟨c6, f6⟩ := A5.out 6 (by omega)
  obtain ⟨r6, g6⟩ := R5.out 6 (by omega)
  obtain ⟨c7, f7⟩ := A5.out 7 (by omega)
  obtain ⟨r7, g7⟩ := R5.out 7 (by omega)
  obtain ⟨c8, f8⟩ := A5.out 8 (by omega)
  obtain ⟨r8, g8⟩ := R5.out 8 (by omega)
  go_wp2_with fail
  rw [rounds_succ]
  go_wp2_with fail
  obtain ⟨q0, q1, q2, q3, q4, q5, q6, q7, q8⟩ := put9 R5.out (.string ((strOfNums (txt y m d)).extract 0 4)) (.int .i64 (perF ((strOfNums (txt y m d)).extract 0 4))) (.int .i64 (perL ((strOfNums (txt y m d)).extract 0 4))) (.string ((strOfNums (txt y m d)).extract 0 7)) (.int .i64 (perF ((strOfNums (txt y m d)).extract 0 7))) (.int .i64 (perL ((strOfNums (txt y m d)).extract 0 7))) (.string ((strOfNums (txt y m d)).extract 0 10)) (.int .i64 (perF ((strOfNums (txt y m d)).extract 0 10))) (.int .i64 (perL ((strOfNums (txt y m d)).extract 0 10)))
  clear c0 c1 c2 c3 c4 c5 c6 c7 c8 r0 r1 r2 r3 r4 r5 r6 r7 r8 f0 f1 f2 f3 f4 f5 f6 f7 f8 g0 g1 g2 g3 g4 g5 g6 g7 g8
  refine bodyPost_ret (by simp [results, Tryd.results53, go_sem, q0, q1, q2, q3, q4, q5, q6, q7, q8] <;> rfl) rfl ⟨rfl, below9 B5.out _ _ _ _ _ _ _ _ _⟩
end Go.Proofs.YtjpiaccpcmlfnaaDoor
