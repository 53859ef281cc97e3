/-
  What readPeriod answers: a year, a month or a day, read by layer 2. No statement of the seat is proved here.
-/
import Derived.Test.YtjpiaccpcmlfnaaDoorYr
namespace Go.Proofs.YtjpiaccpcmlfnaaDoor
open Go.RowKit Cal
open Classical

set_option maxHeartbeats 1000000 in
theorem yearEnd_is (n y m d : Int) (w : World) (hT : Table w) (h1 : 0 ≤ n) (h2 : n ≤ 1048575) (h : IsDate n y m d) :
    Calls Tryd.prog 74 #[.int .i64 n] w fun e w' => e = .returned (.int .i64 (lastV y 12 31)) ∧ w = w' := by
  have HT := Lib.hid hT; have HI := Lib.hid h
  clear hT h
  go_enter Tryd.func74, Tryd.ntmps74
  go_wp2_with (go_at_call 83; refine (YearEnd_is _ _ _ _ _ HT.out (by omega) (by omega) HI.out).mono ?_; rintro e w' ⟨rfl, rfl⟩)
  go_ret
  exact ⟨rfl, rfl⟩

set_option maxHeartbeats 1000000 in
theorem monthEnd_is (n y m d : Int) (w : World) (hT : Table w) (h1 : 0 ≤ n) (h2 : n ≤ 1048575) (h : IsDate n y m d) :
    Calls Tryd.prog 75 #[.int .i64 n] w fun e w' => e = .returned (.int .i64 (mn (n + len y m - 1) 1048575)) ∧ w = w' := by
  have HT := Lib.hid hT; have HI := Lib.hid h
  have l1 := len_bd y m
  clear hT h
  go_enter Tryd.func75, Tryd.ntmps75
  go_wp2_with (first | (go_at_call 47; refine (Date_is _ _ _ _ _ HT.out (by omega) (by omega) HI.out).mono ?_; rintro e w' ⟨rfl, rfl⟩) | (go_at_call 70; refine (Length_any _ _ _ HT.out).mono ?_; rintro e w' ⟨rfl, rfl⟩))
  all_goals
    go_ret
    refine ⟨ret_int ?_, rfl⟩
    unfold mn
    first | (rw [if_pos (by omega)]; done) | (rw [if_neg (by omega)]; done)

/-- A text that layer 2 reads: its error, its day, and the last days of its year and of its month. -/
noncomputable def rdE (t : ByteArray) : Int := if Shape t then ofE (p1 t) (p2 t) (p3 t) else 3
noncomputable def rdF (t : ByteArray) : Int := if rdE t = 0 then ofV (p1 t) (p2 t) (p3 t) else 0
noncomputable def rdY (t : ByteArray) : Int := if rdE t = 0 then lastV (p1 t) 12 31 else 0
noncomputable def rdM (t : ByteArray) : Int := if rdE t = 0 then mn (ofV (p1 t) (p2 t) (p3 t) + len (p1 t) (p2 t) - 1) 1048575 else 0

theorem ofE_02 (y m d : Int) : ofE y m d = 0 ∨ ofE y m d = 2 := by unfold ofE; split <;> simp
theorem of_zero {y m d : Int} (h : ofE y m d = 0) : IsDate (ofV y m d) y m d ∧ 0 ≤ ofV y m d ∧ ofV y m d ≤ 1048575 := by
  unfold ofE at h
  by_cases k : 1 ≤ d ∧ d ≤ len y m ∧ num y m d ≤ 1048575
  · obtain ⟨a, b, c, e⟩ := of_len k.1 k.2.1
    have hv : Valid y m d := ⟨a, b, c, e, k.1, k.2.1⟩
    rw [(of_yes k.1 k.2.1 k.2.2).1]
    exact ⟨⟨hv, rfl⟩, (num_bd hv).1, k.2.2⟩
  · rw [if_neg k] at h; omega

set_option maxHeartbeats 1000000 in
theorem readDays_no (t : ByteArray) (E : Value) (x : Int) (w : World) (hT : Table w) (hx : x = 2 ∨ x = 3)
    (C : ∀ w, Table w → Calls Tryd.prog 82 #[.string t] w fun e w' => e = .returned (.tuple #[.int .i64 0, .int .i64 x]) ∧ w = w') :
    Calls Tryd.prog 73 #[.string t, E] w fun e w' => e = .returned (.tuple #[.agg #[.int .i64 0, .int .i64 0], .int .i64 x]) ∧ Below w.heap.size w w' := by
  have hb : (x != 0) = true := by simp; omega
  have D := Lib.hid C
  have HT := Lib.hid (hT.below ((Below.refl w.heap.size w).alloc (Nat.le_refl _) (.cells #[.int .i64 0, .int .i64 0] 23)))
  clear hx C hT
  go_enter Tryd.func73, Tryd.ntmps73
  go_wp2_with fail
  refine (D.out _ HT.out).mono ?_
  rintro e w' ⟨rfl, rfl⟩
  go_wp2
  refine bodyPost_ret (by simp [results, Tryd.results73, go_sem] <;> rfl) rfl ⟨rfl, by (repeat (first | with_reducible exact Below.refl _ _ | with_reducible assumption | refine Below.alloc ?_ (by first | exact Nat.le_refl _ | (simp; done) | (simp; omega)) _ | refine Below.setCell ?_ (by first | exact Nat.le_refl _ | (simp; done) | (simp; omega)) _))⟩

theorem parse_rd (t : ByteArray) (w : World) (hT : Table w) : Calls Tryd.prog 82 #[.string t] w fun e w' => e = .returned (.tuple #[.int .i64 (rdF t), .int .i64 (rdE t)]) ∧ w = w' := by
  by_cases h : Shape t
  · have k := Parse_good t w hT h
    have e1 : rdE t = ofE (p1 t) (p2 t) (p3 t) := if_pos h
    have e2 : rdF t = ofV (p1 t) (p2 t) (p3 t) := by
      unfold rdF
      rw [e1]
      rcases ofE_02 (p1 t) (p2 t) (p3 t) with z | z
      · rw [if_pos z]
      · rw [if_neg (by omega)]
        unfold ofE at z
        unfold ofV
        split at z
        · omega
        · rw [if_neg (by assumption)]
    rw [e1, e2]
    exact k
  · have k := Parse_bad t w hT h
    have e1 : rdE t = 3 := if_neg h
    have e2 : rdF t = 0 := by unfold rdF; rw [e1]; rfl
    rw [e1, e2]
    exact k

set_option maxHeartbeats 1000000 in
theorem readDays_Y (t : ByteArray) (w : World) (hT : Table w) (h : rdE t = 0) :
    Calls Tryd.prog 73 #[.string t, .func (.func 74) #[] #[]] w fun e w' => e = .returned (.tuple #[.agg #[.int .i64 (rdF t), .int .i64 (rdY t)], .int .i64 0]) ∧ Below w.heap.size w w' := by
  have hs : Shape t := by
    apply Classical.byContradiction
    intro g
    unfold rdE at h
    rw [if_neg g] at h
    omega
  have hE : ofE (p1 t) (p2 t) (p3 t) = 0 := by rw [← h]; exact (if_pos hs).symm
  obtain ⟨i0, I1, I2⟩ := of_zero hE
  have hf : rdF t = ofV (p1 t) (p2 t) (p3 t) := if_pos h
  have hy : rdY t = lastV (p1 t) 12 31 := if_pos h
  have hm : rdM t = mn (ofV (p1 t) (p2 t) (p3 t) + len (p1 t) (p2 t) - 1) 1048575 := if_pos h
  have C : ∀ w, Table w → Calls Tryd.prog 82 #[.string t] w fun e w' => e = .returned (.tuple #[.int .i64 (rdF t), .int .i64 0]) ∧ w = w' := fun w hT => by
    have := parse_rd t w hT
    rw [h] at this
    exact this
  rw [← hf] at i0 I1 I2 hm
  rw [hy]
  have D := Lib.hid C; have I0 := Lib.hid i0
  have HT := Lib.hid (hT.below ((Below.refl w.heap.size w).alloc (Nat.le_refl _) (.cells #[.int .i64 0, .int .i64 0] 23)))
  clear hf hy hm C i0 hE hs h hT
  go_enter Tryd.func73, Tryd.ntmps73
  go_wp2_with fail
  refine (D.out _ HT.out).mono ?_
  rintro e w' ⟨rfl, rfl⟩
  go_wp2_with fail
  refine (yearEnd_is _ _ _ _ _ HT.out I1 I2 I0.out).mono ?_
  rintro e w' ⟨rfl, rfl⟩
  go_wp2
  refine bodyPost_ret (by simp [results, Tryd.results73, go_sem] <;> rfl) rfl ⟨rfl, by (repeat (first | with_reducible exact Below.refl _ _ | with_reducible assumption | refine Below.alloc ?_ (by first | exact Nat.le_refl _ | (simp; done) | (simp; omega)) _ | refine Below.setCell ?_ (by first | exact Nat.le_refl _ | (simp; done) | (simp; omega)) _))⟩

set_option maxHeartbeats 1000000 in
theorem readDays_M (t : ByteArray) (w : World) (hT : Table w) (h : rdE t = 0) :
    Calls Tryd.prog 73 #[.string t, .func (.func 75) #[] #[]] w fun e w' => e = .returned (.tuple #[.agg #[.int .i64 (rdF t), .int .i64 (rdM t)], .int .i64 0]) ∧ Below w.heap.size w w' := by
  have hs : Shape t := by
    apply Classical.byContradiction
    intro g
    unfold rdE at h
    rw [if_neg g] at h
    omega
  have hE : ofE (p1 t) (p2 t) (p3 t) = 0 := by rw [← h]; exact (if_pos hs).symm
  obtain ⟨i0, I1, I2⟩ := of_zero hE
  have hf : rdF t = ofV (p1 t) (p2 t) (p3 t) := if_pos h
  have hy : rdY t = lastV (p1 t) 12 31 := if_pos h
  have hm : rdM t = mn (ofV (p1 t) (p2 t) (p3 t) + len (p1 t) (p2 t) - 1) 1048575 := if_pos h
  have C : ∀ w, Table w → Calls Tryd.prog 82 #[.string t] w fun e w' => e = .returned (.tuple #[.int .i64 (rdF t), .int .i64 0]) ∧ w = w' := fun w hT => by
    have := parse_rd t w hT
    rw [h] at this
    exact this
  rw [← hf] at i0 I1 I2 hm
  rw [hm]
  have D := Lib.hid C; have I0 := Lib.hid i0
  have HT := Lib.hid (hT.below ((Below.refl w.heap.size w).alloc (Nat.le_refl _) (.cells #[.int .i64 0, .int .i64 0] 23)))
  clear hf hy hm C i0 hE hs h hT
  go_enter Tryd.func73, Tryd.ntmps73
  go_wp2_with fail
  refine (D.out _ HT.out).mono ?_
  rintro e w' ⟨rfl, rfl⟩
  go_wp2_with fail
  refine (monthEnd_is _ _ _ _ _ HT.out I1 I2 I0.out).mono ?_
  rintro e w' ⟨rfl, rfl⟩
  go_wp2
  refine bodyPost_ret (by simp [results, Tryd.results73, go_sem] <;> rfl) rfl ⟨rfl, by (repeat (first | with_reducible exact Below.refl _ _ | with_reducible assumption | refine Below.alloc ?_ (by first | exact Nat.le_refl _ | (simp; done) | (simp; omega)) _ | refine Below.setCell ?_ (by first | exact Nat.le_refl _ | (simp; done) | (simp; omega)) _))⟩

set_option maxHeartbeats 1000000 in
theorem readDays_D (t : ByteArray) (w : World) (hT : Table w) (h : rdE t = 0) :
    Calls Tryd.prog 73 #[.string t, .func (.func 76) #[] #[]] w fun e w' => e = .returned (.tuple #[.agg #[.int .i64 (rdF t), .int .i64 (rdF t)], .int .i64 0]) ∧ Below w.heap.size w w' := by
  have hs : Shape t := by
    apply Classical.byContradiction
    intro g
    unfold rdE at h
    rw [if_neg g] at h
    omega
  have hE : ofE (p1 t) (p2 t) (p3 t) = 0 := by rw [← h]; exact (if_pos hs).symm
  obtain ⟨i0, I1, I2⟩ := of_zero hE
  have hf : rdF t = ofV (p1 t) (p2 t) (p3 t) := if_pos h
  have hy : rdY t = lastV (p1 t) 12 31 := if_pos h
  have hm : rdM t = mn (ofV (p1 t) (p2 t) (p3 t) + len (p1 t) (p2 t) - 1) 1048575 := if_pos h
  have C : ∀ w, Table w → Calls Tryd.prog 82 #[.string t] w fun e w' => e = .returned (.tuple #[.int .i64 (rdF t), .int .i64 0]) ∧ w = w' := fun w hT => by
    have := parse_rd t w hT
    rw [h] at this
    exact this
  rw [← hf] at i0 I1 I2 hm
  have D := Lib.hid C; have I0 := Lib.hid i0
  have HT := Lib.hid (hT.below ((Below.refl w.heap.size w).alloc (Nat.le_refl _) (.cells #[.int .i64 0, .int .i64 0] 23)))
  clear hf hy hm C i0 hE hs h hT
  go_enter Tryd.func73, Tryd.ntmps73
  go_wp2_with fail
  refine (D.out _ HT.out).mono ?_
  rintro e w' ⟨rfl, rfl⟩
  go_wp2
  refine bodyPost_ret (by simp [results, Tryd.results73, go_sem] <;> rfl) rfl ⟨rfl, by (repeat (first | with_reducible exact Below.refl _ _ | with_reducible assumption | refine Below.alloc ?_ (by first | exact Nat.le_refl _ | (simp; done) | (simp; omega)) _ | refine Below.setCell ?_ (by first | exact Nat.le_refl _ | (simp; done) | (simp; omega)) _))⟩

end Go.Proofs.YtjpiaccpcmlfnaaDoor
