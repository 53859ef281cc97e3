/-
  The example of the chapter that each law checks first, walked over the program's text. No statement of the seat is proved here.
-/
import Derived.Test.YtjpiaccpcmlfnaaDoorFmt
import Derived.Test.YtjpiaccpcmlfnaaDoorPar
namespace Go.Proofs.YtjpiaccpcmlfnaaDoor
open Go.RowKit Cal
open Classical

set_option maxHeartbeats 1000000 in
theorem readUnknown_no (s : ByteArray) (w : World) (h : s ≠ unk) :
    Calls Tryd.prog 60 #[.string s] w fun e w' => e = Ans 0 0 3 ∧ Below w.heap.size w w' := by
  have h0 : (!s.toList == [117, 110, 107, 110, 111, 119, 110]) = true := by
    rw [Bool.not_eq_true', beq_eq_false_iff_ne]
    intro e
    apply h
    apply ByteArray.ext
    apply Array.toList_inj.1
    rw [← Lib.toList_data, e]
    rfl
  clear h
  go_enter Tryd.func60, Tryd.ntmps60
  go_wp2
  refine bodyPost_ret (by simp [results, Tryd.results60, go_sem] <;> rfl) rfl ⟨rfl, by go_grown⟩

theorem yr_per (y : Int) (h : ofE y 1 1 = 0) (hy : 0 ≤ y ∧ y ≤ 9999) : perE (strOfNums (d4 y)) = 0 ∧ perF (strOfNums (d4 y)) = num y 1 1 ∧ perL (strOfNums (d4 y)) = lastV y 12 31 := by
  have hz : (strOfNums (d4 y)).size = 4 := size_d4 y
  obtain ⟨r1, r2, r3, r4⟩ := rd_txt (y := y) (m := 1) (d := 1) hy (by omega) (by omega) h
  unfold perE perF perL
  rw [if_pos hz, if_pos hz, if_pos hz, d4_x4]
  exact ⟨r1, r2, r3⟩

theorem s1923 : ({ data := #[49, 57, 50, 51] } : ByteArray) = strOfNums (d4 1923) := by decide
theorem s1924 : ({ data := #[49, 57, 50, 52] } : ByteArray) = strOfNums (d4 1924) := by decide
theorem n1923 : num 1923 1 1 = 117973 ∧ lastV 1923 12 31 = 118337 ∧ ofE 1923 1 1 = 0 := by decide
theorem n1924 : num 1924 1 1 = 118338 ∧ lastV 1924 12 31 = 118703 ∧ ofE 1924 1 1 = 0 := by decide

theorem parse_yr (s : ByteArray) (y : Int) (w : World) (hT : Table w) (hs : s = strOfNums (d4 y)) (h : ofE y 1 1 = 0) (hy : 0 ≤ y ∧ y ≤ 9999) (hu : s ≠ unk) :
    Calls Tryd.prog 26 #[.string s] w fun e w' => e = Ans (num y 1 1) (lastV y 12 31) 0 ∧ Below w.heap.size w w' := by
  obtain ⟨e1, e2, e3⟩ := yr_per y h hy
  rw [← hs] at e1 e2 e3
  have k := Parse_at1 s 0 0 3 (perF s) (perL s) (perE s) w hT (fun w _ => readUnknown_no s w hu) (fun w hT => readPeriod_any s w hT) rfl (by omega)
  rw [e1, e2, e3] at k
  exact k

theorem fmt1923 (w : World) (hT : Table w) : Calls Tryd.prog 24 #[.agg #[.int .i64 117973, .int .i64 118337]] w fun e w' => e = .returned (.tuple #[.string { data := #[49, 57, 50, 51] }, .int .i64 0]) ∧ Below w.heap.size w w' := by
  have hI : IsDate 117973 1923 1 1 := by refine ⟨⟨?_, ?_, ?_, ?_, ?_, ?_⟩, ?_⟩ <;> decide
  obtain ⟨e1, e2, e3⟩ := per_year hI (by omega)
  have q : perF ((dayS 117973).extract 0 4) = 117973 ∧ perL ((dayS 117973).extract 0 4) = 118337 := by
    rw [dayS_is hI, e2, e3]
    decide
  have k := Format_just 117973 118337 w hT (by omega) (by omega) (by omega) (by decide) (if_pos q)
  have hs : jusS (dayS 117973) 117973 118337 = { data := #[49, 57, 50, 51] } := by
    rw [show jusS (dayS 117973) 117973 118337 = (dayS 117973).extract 0 4 from if_pos q, dayS_is hI, txt_4]
    decide
  rw [hs] at k
  exact k

set_option maxHeartbeats 4000000 in
theorem awake_true (w : World) (hT : Table w) :
    Calls Tryd.prog 11 #[] w fun e w' => e = .returned (.bool true) ∧ Below w.heap.size w w' := by
  have HT := Lib.hid hT
  have hlt := hT.lt
  have P1 : ∀ w, Table w → Calls Tryd.prog 26 #[.string { data := #[49, 57, 50, 51] }] w fun e w' => e = Ans 117973 118337 0 ∧ Below w.heap.size w w' := fun w hT => by
    have := parse_yr _ 1923 w hT s1923 n1923.2.2 (by omega) (by decide)
    rw [n1923.1, n1923.2.1] at this
    exact this
  have P2 : ∀ w, Table w → Calls Tryd.prog 26 #[.string { data := #[49, 57, 50, 52] }] w fun e w' => e = Ans 118338 118703 0 ∧ Below w.heap.size w w' := fun w hT => by
    have := parse_yr _ 1924 w hT s1924 n1924.2.2 (by omega) (by decide)
    rw [n1924.1, n1924.2.1] at this
    exact this
  have Q1 := Lib.hid P1; have Q2 := Lib.hid P2
  clear hT P1 P2
  go_enter Tryd.func11, Tryd.ntmps11
  go_wp2_with fail
  refine (Q1.out w HT.out).mono ?_
  rintro e w1 ⟨rfl, hb1⟩
  have b1 := hb1
  have B1 := Lib.hid hb1
  have z1 := hb1.size
  clear hb1 b1
  go_wp2_with fail
  refine (Q2.out _ (HT.out.below (by have := B1.out; go_grown))).mono ?_
  rintro e w2 ⟨rfl, hb2⟩
  have B2 : Hid (Below w.heap.size w w2) := (B1.out.alloc z1 _).trans (hb2.mono (by simp; omega))
  have c0 := (hb2.cell (p := ⟨w1.heap.size, 0, none⟩) (by simp)).trans (World.cell?_alloc_new _ _ _ 0)
  have c1 := (hb2.cell (p := ⟨w1.heap.size, 1, none⟩) (by simp)).trans (World.cell?_alloc_new _ _ _ 1)
  have z2 : w1.heap.size < w2.heap.size := World.block_lt_of_cell? w2 ⟨w1.heap.size, 0, none⟩ c0
  clear hb2
  go_wp2_with fail
  refine (fmt1923 _ (HT.out.below (by have := B2.out; go_grown))).mono ?_
  rintro e w3 ⟨rfl, hb3⟩
  have B3 : Hid (Below w.heap.size w w3) := (B2.out.alloc (by omega) _).trans (hb3.mono (by simp; omega))
  have d0 := (hb3.cell (p := ⟨w1.heap.size, 0, none⟩) (by simp; omega)).trans ((World.cell?_alloc_lt _ _ ⟨w1.heap.size, 0, none⟩ z2).trans c0)
  have d1 := (hb3.cell (p := ⟨w1.heap.size, 1, none⟩) (by simp; omega)).trans ((World.cell?_alloc_lt _ _ ⟨w1.heap.size, 1, none⟩ z2).trans c1)
  have e0 := (hb3.cell (p := ⟨w2.heap.size, 0, none⟩) (by simp)).trans (World.cell?_alloc_new _ _ _ 0)
  have e1 := (hb3.cell (p := ⟨w2.heap.size, 1, none⟩) (by simp)).trans (World.cell?_alloc_new _ _ _ 1)
  have z3 : w2.heap.size < w3.heap.size := World.block_lt_of_cell? w3 ⟨w2.heap.size, 0, none⟩ e0
  clear hb3 c0 c1
  go_wp2_with fail
  refine (Before_any _ _ _ _ _).mono ?_
  rintro e w4 ⟨rfl, hb4⟩
  have B4 : Hid (Below w.heap.size w w4) := B3.out.trans (hb4.mono (by omega))
  have y4 := hb4.size
  clear hb4
  rw [show befV 117973 118337 118338 118703 = 2 by decide, show relE 117973 118337 118338 118703 = 0 by decide]
  go_wp2
  go_ret
  exact ⟨rfl, by have := B4.out; go_grown⟩
end Go.Proofs.YtjpiaccpcmlfnaaDoor
