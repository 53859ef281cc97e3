/-
  Known, Trigger, State. No statement of the seat is proved here.
-/
import Derived.Test.YtbjbioiggjhknaaGreatDoorFm
namespace Go.Proofs.YtbjbioiggjhknaaGreatDoor
open Go Go.RowKit

/-- Days and whether there are any, as a value. -/
def datV (o : Option (Int × Int)) : Value := match o with | some (a, b) => .tuple #[.agg #[.int .i64 a, .int .i64 b], .bool true] | none => .tuple #[.agg #[.int .i64 0, .int .i64 0], .bool false]
def pas (x d : Int) : Option (Int × Int) := if x ≤ d then some (x, x) else none

set_option maxHeartbeats 2000000 in
theorem passed_any (x d : Int) (w : World) : Calls Tryz.prog 57 #[.int .i64 x, .int .i64 d] w fun e w' => e = .returned (datV (pas x d)) ∧ Below w.heap.size w w' := by
  by_cases h : x ≤ d
  · have e : decide (x > d) = false := by simp; omega
    have hp : pas x d = some (x, x) := if_pos h
    rw [hp]
    clear h hp
    unfold datV
    go_enter Tryz.func57, Tryz.ntmps57
    go_wp2
    exact bodyPost_ret (by simp [results, Tryz.results57, go_sem]) rfl ⟨rfl, by go_grown⟩
  · have e : decide (x > d) = true := by simp; omega
    have hp : pas x d = none := if_neg h
    rw [hp]
    clear h hp
    unfold datV
    go_enter Tryz.func57, Tryz.ntmps57
    go_wp2
    exact bodyPost_ret (by simp [results, Tryz.results57, go_sem]) rfl ⟨rfl, by go_grown⟩

def staI (x : Fil) (d : Int) : Int := if d < x.op then 0 else if d < x.cl then 1 else 2
set_option maxHeartbeats 2000000 in
theorem State_any (x : Fil) (d : Int) (w : World) : Calls Tryz.prog 42 #[x.val, .int .i64 d] w fun e w' => e = .returned (.int .i64 (staI x d)) ∧ Below w.heap.size w w' := by
  unfold staI Fil.val Fil.cells
  obtain ⟨n, hl⟩ : ∃ n, x.ns.length = n := ⟨_, rfl⟩
  rw [hl]
  by_cases h : d < x.op
  · have e : decide (d < x.op) = true := decide_eq_true h
    rw [if_pos h]
    clear h
    go_enter Tryz.func42, Tryz.ntmps42
    go_wp2
    go_ret
    exact ⟨rfl, by go_grown⟩
  · have e : decide (d < x.op) = false := decide_eq_false h
    rw [if_neg h]
    clear h
    by_cases h : d < x.cl
    · have e : decide (d < x.cl) = true := decide_eq_true h
      rw [if_pos h]
      clear h
      go_enter Tryz.func42, Tryz.ntmps42
      go_wp2
      go_ret
      exact ⟨rfl, by go_grown⟩
    · have e : decide (d < x.cl) = false := decide_eq_false h
      rw [if_neg h]
      clear h
      go_enter Tryz.func42, Tryz.ntmps42
      go_wp2
      go_ret
      exact ⟨rfl, by go_grown⟩

set_option maxHeartbeats 4000000 in
theorem Known_any (x : Fil) (d : Int) (w : World) (hP : NtsAt w x.np x.ns) (hn : x.ns.length ≤ 1000000000) :
    Calls Tryz.prog 41 #[x.val, .int .i64 d] w fun e w' => ∃ v, e = .returned v ∧ w'.ownsRow w.heap.size 74 4 v (kn x.ns d).length (ntC (kn x.ns d)) ∧ Below w.heap.size w w' := by
  obtain ⟨W1, hW1⟩ : ∃ W1, W1 = (w.alloc (.cells x.cells 39)).alloc (.cells #[.int .i64 d] 3) := ⟨_, rfl⟩
  have B1 : Hid (Below w.heap.size w W1) := by rw [hW1]; exact ((Below.refl _ _).alloc (Nat.le_refl _) _).alloc (by simp) _
  have X1 : FilAt W1 w.heap.size 0 x := by rw [hW1]; exact (fil_new w x 39).next ((Below.refl _ _).alloc (Nat.le_refl _) _)
  obtain ⟨c, hc⟩ : ∃ c, c = w.heap.size + 1 := ⟨_, rfl⟩
  have D1 : Hid (W1.cell? ⟨c, 0, none⟩ = some (.int .i64 d)) := by
    rw [hW1, hc]
    have := World.cell?_alloc_new (w.alloc (.cells x.cells 39)) #[.int .i64 d] 3 0
    rw [World.size_alloc] at this
    exact this
  have C := Lib.hid (notesOf59 x c (fun y => decide (y.r ≤ d)) (fun w1 => w1.cell? ⟨c, 0, none⟩ = some (.int .i64 d)) (fun _ _ h hb => cell_next h hb) (fun y _ w1 h => kn59_any y c d w1 h) W1 (hP.next B1.out) D1.out hn)
  have zW := B1.out.size
  obtain ⟨c0, c1, c2, c3, c4, c5, c6, c7⟩ := X1
  unfold Fil.val Fil.cells at C ⊢
  unfold Fil.cells at hW1
  clear hP hn
  obtain ⟨n, hl⟩ : ∃ n, x.ns.length = n := ⟨_, rfl⟩
  rw [hl] at C c7 hW1 ⊢
  have HL := Lib.hid hl
  clear hl
  go_enter Tryz.func41, Tryz.ntmps41
  go_wp2_with fail
  rw [← hW1, ← hc]
  clear hW1 hc
  go_wp2_with fail
  refine C.out.mono ?_
  rintro e w2 ⟨v, rfl, hr, hb⟩
  have R : Hid (w2.ownsRow w.heap.size 74 4 v (kn x.ns d).length (ntC (kn x.ns d))) := Go.Joins.ownsRow_le hr zW
  have B2 : Hid (Below w.heap.size w w2) := B1.out.trans (hb.mono zW)
  clear hr hb
  go_wp2_with fail
  go_ret
  exact ⟨_, rfl, R.out, B2.out⟩

/-- The days of a trigger. -/
def trgO (x : Fil) (s : ByteArray) (d : Int) : Option (Int × Int) :=
  if s = ⟨#[111, 112, 101, 110, 101, 100]⟩ then pas x.op d else if s = ⟨#[99, 108, 111, 115, 101, 100]⟩ then pas x.cl d else trig x.ns s d

theorem op_eq {s t : ByteArray} (h : s = t) (l : List UInt8) (ht : t.toList = l) : (s.toList == l) = true := by rw [h, ht]; simp
theorem op_ne {s t : ByteArray} (h : s ≠ t) (l : List UInt8) (ht : t.toList = l) : (s.toList == l) = false := by rw [← ht]; exact ba_ne' h

theorem field62 (s : ByteArray) (a b r : Int) (w : World) : Sem.run Tryz.prog (Instr.field 74 (.agg #[.string s, .int .i64 a, .int .i64 b, .int .i64 r]) 1) w = .ok (.agg #[.int .i64 a, .int .i64 b]) w := by
  show Sem.run _ _ _ = _
  kernel_rfl

set_option maxRecDepth 100000 in
set_option maxHeartbeats 8000000 in
theorem Trigger_any (x : Fil) (s : ByteArray) (d : Int) (w : World) (hP : NtsAt w x.np x.ns) (hn : x.ns.length ≤ 1000000000) :
    Calls Tryz.prog 40 #[x.val, .string s, .int .i64 d] w fun e w' => e = .returned (datV (trgO x s d)) ∧ Below w.heap.size w w' := by
  obtain ⟨W1, hW1⟩ : ∃ W1, W1 = (((w.alloc (.cells x.cells 39)).alloc (.cells #[.string s] 9)).alloc (.cells #[.int .i64 d] 3)).alloc (.cells #[.int .i64 0, .int .i64 0] 68) := ⟨_, rfl⟩
  have B1 : Hid (Below w.heap.size w W1) := by rw [hW1]; exact (below3 _ _ _ _).alloc (by simp; omega) _
  obtain ⟨b, hb⟩ : ∃ b, b = w.heap.size := ⟨_, rfl⟩
  have AA : ∀ o : Obj, Below (((w.alloc (.cells x.cells 39)).alloc (.cells #[.string s] 9)).alloc (.cells #[.int .i64 d] 3)).heap.size (((w.alloc (.cells x.cells 39)).alloc (.cells #[.string s] 9)).alloc (.cells #[.int .i64 d] 3)) ((((w.alloc (.cells x.cells 39)).alloc (.cells #[.string s] 9)).alloc (.cells #[.int .i64 d] 3)).alloc o) := fun o => (Below.refl _ _).alloc (Nat.le_refl _) o
  have X1 : FilAt W1 b 0 x := by
    rw [hW1, hb]
    exact (((fil_new w x 39).next ((Below.refl _ _).alloc (Nat.le_refl _) _)).next ((Below.refl _ _).alloc (Nat.le_refl _) _)).next (AA _)
  have S1 : Hid (W1.cell? ⟨b + 1, 0, none⟩ = some (.string s)) := by
    rw [hW1, hb]
    exact cell_next (cell_next (str_new _ _ _ _ (by simp)) ((Below.refl _ _).alloc (Nat.le_refl _) _)) (AA _)
  have D1 : Hid (W1.cell? ⟨b + 2, 0, none⟩ = some (.int .i64 d)) := by
    rw [hW1, hb]
    refine cell_next ?_ (AA _)
    have := World.cell?_alloc_new ((w.alloc (.cells x.cells 39)).alloc (.cells #[.string s] 9)) #[.int .i64 d] 3 0
    simp only [World.size_alloc] at this
    exact this
  have R1 : Hid (HoldsN 2 W1 (b + 3) (fun i => ([.int .i64 0, .int .i64 0] : List Value).getD i undef)) := by
    rw [hW1, hb]
    have := HoldsN.new (((w.alloc (.cells x.cells 39)).alloc (.cells #[.string s] 9)).alloc (.cells #[.int .i64 d] 3)) [.int .i64 0, .int .i64 0] 68 2 rfl
    simp only [World.size_alloc] at this
    exact this
  have C := Lib.hid (notesOf55 x (b + 1) (b + 2) (fun y => eqs s y && decide (y.r ≤ d)) (fun w1 => w1.cell? ⟨b + 1, 0, none⟩ = some (.string s) ∧ w1.cell? ⟨b + 2, 0, none⟩ = some (.int .i64 d)) (fun _ _ h hb => ⟨cell_next h.1 hb, cell_next h.2 hb⟩) (fun y _ w1 h => nm55_any y (b + 1) (b + 2) s d w1 h.1 h.2) W1 (hP.next B1.out) ⟨S1.out, D1.out⟩ hn)
  have zW := B1.out.size
  obtain ⟨c0, c1, c2, c3, c4, c5, c6, c7⟩ := X1
  have s0 := S1.out; have d0 := D1.out
  have r0 := R1.out.cell 0 (by omega); have r1 := R1.out.cell 1 (by omega)
  have f0 := R1.out.frozen 0 (by omega); have f1 := R1.out.frozen 1 (by omega)
  have HB := Lib.hid hb
  obtain ⟨R, hR⟩ : ∃ R, R = trgO x s d := ⟨_, rfl⟩
  have HR := Lib.hid hR
  rw [← hR]
  obtain ⟨A, B, O, ho⟩ : ∃ A B O, datV R = .tuple #[.agg #[.int .i64 A, .int .i64 B], .bool O] := by
    cases R with
    | none => exact ⟨_, _, _, rfl⟩
    | some q => exact ⟨_, _, _, rfl⟩
  have HO := Lib.hid ho
  rw [ho]
  unfold Fil.val Fil.cells at C ⊢
  unfold Fil.cells at hW1
  have HL := Lib.hid hn
  clear hP hn hR ho AA
  obtain ⟨n, hl⟩ : ∃ n, x.ns.length = n := ⟨_, rfl⟩
  rw [hl] at C c7 hW1 ⊢
  clear hl
  by_cases g1 : s = ⟨#[111, 112, 101, 110, 101, 100]⟩
  · have e1 := op_eq g1 [111, 112, 101, 110, 101, 100] (by rw [tl]; rfl)
    have hR : Hid (R = pas x.op d) := by show R = _; rw [HR.out]; unfold trgO; rw [if_pos g1]
    have C1 : Hid (∀ w1 : World, Calls Tryz.prog 57 #[.int .i64 x.op, .int .i64 d] w1 fun e w' => e = .returned (.tuple #[.agg #[.int .i64 A, .int .i64 B], .bool O]) ∧ Below w1.heap.size w1 w') := fun w1 => by
      rw [← HO.out, hR.out]
      exact passed_any _ _ w1
    clear g1 C
    go_enter Tryz.func40, Tryz.ntmps40
    go_wp2_with fail
    rw [← hW1, ← hb]
    clear hW1 hb
    go_wp2_with fail
    refine (C1.out W1).mono ?_
    rintro e w2 ⟨rfl, hb2⟩
    have B2 : Hid (Below w.heap.size w w2) := B1.out.trans (hb2.mono B1.out.size)
    have R2 := Lib.hid (R1.out.next hb2)
    clear hb2 c0 c1 c2 c3 c4 c5 c6 c7 s0 d0 r0 r1 f0 f1
    have r0 := R2.out.cell 0 (by omega); have r1 := R2.out.cell 1 (by omega)
    have f0 := R2.out.frozen 0 (by omega); have f1 := R2.out.frozen 1 (by omega)
    have R3 := Lib.hid ((R2.out.put 0 (by omega) (.int .i64 A)).put 1 (by omega) (.int .i64 B))
    have q0 := R3.out.cell 0 (by omega); have q1 := R3.out.cell 1 (by omega)
    simp only [if_true, Nat.zero_ne_one, if_false, Nat.reduceEqDiff] at q0 q1
    have hbw : w.heap.size ≤ b + 3 := by rw [HB.out]; omega
    have BF := Lib.hid ((B2.out.setCell (p := ⟨b + 3, 0, none⟩) hbw (.int .i64 A)).setCell (p := ⟨b + 3, 1, none⟩) hbw (.int .i64 B))
    go_wp2_with fail
    exact bodyPost_ret (by simp [results, Tryz.results40, go_sem, q0, q1]) rfl ⟨rfl, by first | exact BF.out | (rw [HB.out]; exact BF.out)⟩
  · have e1 := op_ne g1 [111, 112, 101, 110, 101, 100] (by rw [tl]; rfl)
    by_cases g2 : s = ⟨#[99, 108, 111, 115, 101, 100]⟩
    · have e2 := op_eq g2 [99, 108, 111, 115, 101, 100] (by rw [tl]; rfl)
      have hR : Hid (R = pas x.cl d) := by show R = _; rw [HR.out]; unfold trgO; rw [if_neg g1, if_pos g2]
      have C1 : Hid (∀ w1 : World, Calls Tryz.prog 57 #[.int .i64 x.cl, .int .i64 d] w1 fun e w' => e = .returned (.tuple #[.agg #[.int .i64 A, .int .i64 B], .bool O]) ∧ Below w1.heap.size w1 w') := fun w1 => by
        rw [← HO.out, hR.out]
        exact passed_any _ _ w1
      clear g1 g2 C
      go_enter Tryz.func40, Tryz.ntmps40
      go_wp2_with fail
      rw [← hW1, ← hb]
      clear hW1 hb
      go_wp2_with fail
      refine (C1.out W1).mono ?_
      rintro e w2 ⟨rfl, hb2⟩
      have B2 : Hid (Below w.heap.size w w2) := B1.out.trans (hb2.mono B1.out.size)
      have R2 := Lib.hid (R1.out.next hb2)
      clear hb2 c0 c1 c2 c3 c4 c5 c6 c7 s0 d0 r0 r1 f0 f1
      have r0 := R2.out.cell 0 (by omega); have r1 := R2.out.cell 1 (by omega)
      have f0 := R2.out.frozen 0 (by omega); have f1 := R2.out.frozen 1 (by omega)
      have R3 := Lib.hid ((R2.out.put 0 (by omega) (.int .i64 A)).put 1 (by omega) (.int .i64 B))
      have q0 := R3.out.cell 0 (by omega); have q1 := R3.out.cell 1 (by omega)
      simp only [if_true, Nat.zero_ne_one, if_false, Nat.reduceEqDiff] at q0 q1
      have hbw : w.heap.size ≤ b + 3 := by rw [HB.out]; omega
      have BF := Lib.hid ((B2.out.setCell (p := ⟨b + 3, 0, none⟩) hbw (.int .i64 A)).setCell (p := ⟨b + 3, 1, none⟩) hbw (.int .i64 B))
      go_wp2_with fail
      exact bodyPost_ret (by simp [results, Tryz.results40, go_sem, q0, q1]) rfl ⟨rfl, by first | exact BF.out | (rw [HB.out]; exact BF.out)⟩
    · have e2 := op_ne g2 [99, 108, 111, 115, 101, 100] (by rw [tl]; rfl)
      have hR : Hid (R = trig x.ns s d) := by show R = _; rw [HR.out]; unfold trgO; rw [if_neg g1, if_neg g2]
      clear g1 g2
      go_enter Tryz.func40, Tryz.ntmps40
      go_wp2_with fail
      rw [← hW1, ← hb]
      clear hW1 hb
      go_wp2_with fail
      refine C.out.mono ?_
      rintro e w2 ⟨v, rfl, hrow, hb2⟩
      have hrow' : w2.ownsRow W1.heap.size 74 4 v (nm x.ns s d).length (ntC (nm x.ns s d)) := hrow
      have B2 : Hid (Below w.heap.size w w2) := B1.out.trans (hb2.mono B1.out.size)
      have R2 := Lib.hid (R1.out.next hb2)
      obtain ⟨p2, cap2, rfl, hN⟩ := nts_of_row hrow'
      have hlen : (nm x.ns s d).length ≤ 1000000000 := by
        have := List.length_filter_le (fun y => eqs s y && decide (y.r ≤ d)) x.ns
        have h2 := HL.out
        unfold nm
        omega
      clear hb2 c0 c1 c2 c3 c4 c5 c6 c7 s0 d0 r0 r1 f0 f1 hrow hrow' C
      cases hL : nm x.ns s d with
      | nil =>
        have hR2 : R = none := by rw [hR.out]; unfold trig; rw [hL]
        have hAB : A = 0 ∧ B = 0 ∧ O = false := by
          have := HO.out
          rw [hR2] at this
          simpa [datV, eq_comm, and_assoc] using this
        obtain ⟨rfl, rfl, rfl⟩ := hAB
        clear hN hlen hR2 hL
        show _
        have B4 : Hid (Below w.heap.size w w2) := B2.out
        have R4 := Lib.hid R2.out
        have r0 := R4.out.cell 0 (by omega); have r1 := R4.out.cell 1 (by omega)
        have f0 := R4.out.frozen 0 (by omega); have f1 := R4.out.frozen 1 (by omega)
        have R5 := Lib.hid ((R4.out.put 0 (by omega) (.int .i64 0)).put 1 (by omega) (.int .i64 0))
        have q0 := R5.out.cell 0 (by omega); have q1 := R5.out.cell 1 (by omega)
        simp only [if_true, Nat.zero_ne_one, if_false, Nat.reduceEqDiff] at q0 q1
        have hbw : w.heap.size ≤ b + 3 := by rw [HB.out]; omega
        have BF := Lib.hid ((B4.out.setCell (p := ⟨b + 3, 0, none⟩) hbw (.int .i64 0)).setCell (p := ⟨b + 3, 1, none⟩) hbw (.int .i64 0))
        go_wp2_with fail
        exact bodyPost_ret (by simp [results, Tryz.results40, go_sem, q0, q1]) rfl ⟨rfl, by first | exact BF.out | (rw [HB.out]; exact BF.out)⟩
      | cons y r =>
        rw [hL] at hN hlen
        have hR2 : R = some ((mx y r).a, (mx y r).b) := by rw [hR.out]; unfold trig; rw [hL]
        obtain ⟨M, hM⟩ : ∃ M, M = mx y r := ⟨_, rfl⟩
        have hAB : A = M.a ∧ B = M.b ∧ O = true := by
          have := HO.out
          rw [hR2, ← hM] at this
          simpa [datV, eq_comm, and_assoc] using this
        obtain ⟨rfl, rfl, rfl⟩ := hAB
        have CM := Lib.hid (MaxFunc_any p2 (y :: r).length cap2 y r w2 hN rfl (by simpa using hlen))
        rw [← hM] at CM
        obtain ⟨n2, hn2⟩ : ∃ n2, n2 = (y :: r).length := ⟨_, rfl⟩
        have hn0 : ((n2 : Int) == 0) = false := by rw [hn2, beq_eq_false_iff_ne, List.length_cons]; omega
        rw [← hn2] at CM ⊢
        unfold Nt.val at CM
        clear hN hlen hR2 hL hM hn2
        go_wp2_with fail
        refine CM.out.mono ?_
        rintro e w3 ⟨rfl, hb3⟩
        have B4 : Hid (Below w.heap.size w w3) := B2.out.trans (hb3.mono B2.out.size)
        have R4 := Lib.hid (R2.out.next hb3)
        have r0 := R4.out.cell 0 (by omega); have r1 := R4.out.cell 1 (by omega)
        have f0 := R4.out.frozen 0 (by omega); have f1 := R4.out.frozen 1 (by omega)
        have R5 := Lib.hid ((R4.out.put 0 (by omega) (.int .i64 M.a)).put 1 (by omega) (.int .i64 M.b))
        have q0 := R5.out.cell 0 (by omega); have q1 := R5.out.cell 1 (by omega)
        simp only [if_true, Nat.zero_ne_one, if_false, Nat.reduceEqDiff] at q0 q1
        have hbw : w.heap.size ≤ b + 3 := by rw [HB.out]; omega
        have BF := Lib.hid ((B4.out.setCell (p := ⟨b + 3, 0, none⟩) hbw (.int .i64 M.a)).setCell (p := ⟨b + 3, 1, none⟩) hbw (.int .i64 M.b))
        have FD := field62 M.s M.a M.b M.r w3
        clear hb3
        go_wp2_with fail
        exact bodyPost_ret (by simp [results, Tryz.results40, go_sem, q0, q1]) rfl ⟨rfl, by first | exact BF.out | (rw [HB.out]; exact BF.out)⟩

end Go.Proofs.YtbjbioiggjhknaaGreatDoor
