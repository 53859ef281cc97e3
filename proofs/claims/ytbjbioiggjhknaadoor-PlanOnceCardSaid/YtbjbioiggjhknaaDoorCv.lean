/-
  checkVersion and Check. No statement of the seat is proved here.
-/
import Derived.Test.YtbjbioiggjhknaaDoorCc
namespace Go.Proofs.YtbjbioiggjhknaaDoor
open Go Go.RowKit

/-- A span is valid. -/
abbrev spn (f u : Int) : Prop := 0 ≤ f ∧ f < u ∧ u ≤ 1048576
set_option maxHeartbeats 1000000 in
theorem Valid_any (f u : Int) (w : World) :
    Calls Tryd.prog 23 #[.agg #[.int .i64 f, .int .i64 u]] w fun e w' => e = .returned (.bool (decide (spn f u))) ∧ Below w.heap.size w w' := by
  go_enter Tryd.func23, Tryd.ntmps23
  go_wp2
  all_goals
    go_ret
    refine ⟨ret_bool ?_, by go_grown⟩
    first | rfl | (apply Bool.eq_iff_iff.2; constructor <;> intro h9 <;> (try simp at *) <;> omega)
set_option maxHeartbeats 1000000 in
theorem spHas_any (f u d : Int) (w : World) :
    Calls Tryd.prog 22 #[.agg #[.int .i64 f, .int .i64 u], .int .i64 d] w fun e w' => e = .returned (.bool (decide (f ≤ d ∧ d < u))) ∧ Below w.heap.size w w' := by
  go_enter Tryd.func22, Tryd.ntmps22
  go_wp2
  all_goals
    go_ret
    refine ⟨ret_bool ?_, by go_grown⟩
    first | rfl | (apply Bool.eq_iff_iff.2; constructor <;> intro h9 <;> (try simp at *) <;> omega)

/-- A version whose parts a machine can hold. -/
structure Fit (x : Pln) : Prop where
  n1 : (x.cs.length : Int) ≤ 4398046511104
  n2 : (x.ms.length : Int) ≤ 4398046511104
  z1 : Szs x.cs
  z2 : Szs x.ms

set_option maxRecDepth 100000 in
set_option maxHeartbeats 8000000 in
theorem checkVersion_first (p : Option Addr) (cap : Nat) (x : Pln) (w : World) (hE : Env w) (hP : PlnOk w x) (hF : Fit x) :
    Calls Tryd.prog 12 #[.slice p 0 cap, x.val] w fun e w' => e = .returned (.int .i64 (vrsE none 0 x)) ∧ Below w.heap.size w w' := by
  obtain ⟨n1, n2, z1, z2⟩ := hF
  have E0 := Lib.hid hE; have P0 := Lib.hid hP
  obtain ⟨W1, hW1⟩ : ∃ W1, W1 = w.alloc (.cells x.cells 34) := ⟨_, rfl⟩
  have B1 : Hid (Below w.heap.size w W1) := by rw [hW1]; exact (Below.refl _ _).alloc (Nat.le_refl _) _
  obtain ⟨b, hb⟩ : ∃ b, b = w.heap.size := ⟨_, rfl⟩
  have HB := Lib.hid hb
  have X1 : Hid (PlnAt W1 b 0 x) := by rw [hW1, hb]; exact pln_new w x 34
  have A1 := Lib.hid (fun w1 (h : Below w.heap.size w w1) => checkClasses_any x w1 (E0.out.below h) (P0.out.next h) n1 z1)
  have HE : Hid (vrsE none 0 x = if ¬ (x.v = (0 : Int) + 1 ∧ 0 ≤ x.f ∧ x.f < x.u ∧ x.u ≤ 1048576) then 2 else if 128 < x.cs.length ∨ 128 < x.ms.length then 8 else if clsE x.cs ≠ 0 then clsE x.cs else if 0 < x.ms.length then 1 else 0) := rfl
  obtain ⟨R, hR⟩ : ∃ R, R = vrsE none 0 x := ⟨_, rfl⟩
  rw [← hR] at HE ⊢
  obtain ⟨C, hC⟩ : ∃ C, C = clsE x.cs := ⟨_, rfl⟩
  rw [← hC] at HE A1
  unfold Pln.val at A1 ⊢
  unfold Pln.cells at hW1
  clear hE hP z1 z2 hR hC
  have a0 := X1.out.1; have a1 := X1.out.2.1; have a2 := X1.out.2.2.1; have a3 := X1.out.2.2.2.1; have a4 := X1.out.2.2.2.2
  by_cases c1 : x.v = 1
  case neg =>
    have d1 : (x.v != 1) = true := by simp [c1]
    have HE' : Hid (R = 2) := by show R = 2; rw [HE.out, if_pos (fun k => c1 (by have := k.1; omega))]
    clear c1
    go_enter Tryd.func12, Tryd.ntmps12
    go_wp2_with fail
    rw [← hW1, ← hb]
    clear hb
    go_wp2_with fail
    go_ret
    exact ⟨ret_int HE'.out.symm, by first | exact B1.out | (rw [HB.out]; exact B1.out)⟩
  have d1 : (x.v != 1) = false := by simp [c1]
  by_cases c2 : spn x.f x.u
  case neg =>
    have e2 : decide (spn x.f x.u) = false := decide_eq_false c2
    have HE' : Hid (R = 2) := by show R = 2; rw [HE.out, if_pos (fun k => c2 k.2)]
    clear c1 c2
    go_enter Tryd.func12, Tryd.ntmps12
    go_wp2_with fail
    rw [← hW1, ← hb]
    clear hb
    go_wp2_with fail
    refine (Valid_any _ _ _).mono ?_
    rintro e w2 ⟨rfl, hb⟩
    rw [e2]
    have B2 := Lib.hid (B1.out.trans (hb.mono B1.out.size))
    have X2 := Lib.hid (X1.out.next hb)
    clear hb a0 a1 a2 a3 a4
    have a0 := X2.out.1; have a1 := X2.out.2.1; have a2 := X2.out.2.2.1; have a3 := X2.out.2.2.2.1; have a4 := X2.out.2.2.2.2
    go_wp2_with fail
    go_ret
    exact ⟨ret_int HE'.out.symm, B2.out⟩
  have e2 : decide (spn x.f x.u) = true := decide_eq_true c2
  have H1 : ¬ ¬ (x.v = (0 : Int) + 1 ∧ 0 ≤ x.f ∧ x.f < x.u ∧ x.u ≤ 1048576) := fun k => k ⟨by omega, c2⟩
  rw [if_neg H1] at HE
  clear H1 c1 c2
  by_cases c4 : 128 < x.cs.length
  case pos =>
    have e4 : decide ((x.cs.length : Int) > 128) = true := by simp; omega
    have HE' : Hid (R = 8) := by show R = 8; rw [HE.out, if_pos (.inl c4)]
    clear c4
    go_enter Tryd.func12, Tryd.ntmps12
    go_wp2_with fail
    rw [← hW1, ← hb]
    clear hb
    go_wp2_with fail
    refine (Valid_any _ _ _).mono ?_
    rintro e w2 ⟨rfl, hb⟩
    rw [e2]
    have B2 := Lib.hid (B1.out.trans (hb.mono B1.out.size))
    have X2 := Lib.hid (X1.out.next hb)
    clear hb a0 a1 a2 a3 a4
    have a0 := X2.out.1; have a1 := X2.out.2.1; have a2 := X2.out.2.2.1; have a3 := X2.out.2.2.2.1; have a4 := X2.out.2.2.2.2
    go_wp2_with fail
    go_quiet (fail)
    go_wp2_with fail
    go_ret
    exact ⟨ret_int HE'.out.symm, below_drewN B2.out _⟩
  have e4 : decide ((x.cs.length : Int) > 128) = false := by simp; omega
  by_cases c5 : 128 < x.ms.length
  case pos =>
    have e5 : decide ((x.ms.length : Int) > 128) = true := by simp; omega
    have HE' : Hid (R = 8) := by show R = 8; rw [HE.out, if_pos (.inr c5)]
    clear c5
    go_enter Tryd.func12, Tryd.ntmps12
    go_wp2_with fail
    rw [← hW1, ← hb]
    clear hb
    go_wp2_with fail
    refine (Valid_any _ _ _).mono ?_
    rintro e w2 ⟨rfl, hb⟩
    rw [e2]
    have B2 := Lib.hid (B1.out.trans (hb.mono B1.out.size))
    have X2 := Lib.hid (X1.out.next hb)
    clear hb a0 a1 a2 a3 a4
    have a0 := X2.out.1; have a1 := X2.out.2.1; have a2 := X2.out.2.2.1; have a3 := X2.out.2.2.2.1; have a4 := X2.out.2.2.2.2
    go_wp2_with fail
    go_quiet (fail)
    go_wp2_with fail
    go_ret
    exact ⟨ret_int HE'.out.symm, below_drewN B2.out _⟩
  have e5 : decide ((x.ms.length : Int) > 128) = false := by simp; omega
  rw [if_neg (fun k => k.elim c4 c5)] at HE
  clear c4 c5
  go_enter Tryd.func12, Tryd.ntmps12
  go_wp2_with fail
  rw [← hW1, ← hb]
  clear hb
  go_wp2_with fail
  refine (Valid_any _ _ _).mono ?_
  rintro e w2 ⟨rfl, hb⟩
  rw [e2]
  have B2 := Lib.hid (B1.out.trans (hb.mono B1.out.size))
  have X2 := Lib.hid (X1.out.next hb)
  clear hb a0 a1 a2 a3 a4
  have a0 := X2.out.1; have a1 := X2.out.2.1; have a2 := X2.out.2.2.1; have a3 := X2.out.2.2.2.1; have a4 := X2.out.2.2.2.2
  go_wp2_with fail
  go_quiet (fail)
  go_wp2_with fail
  refine (A1.out _ (below_drewN B2.out _)).mono ?_
  rintro e w3 ⟨rfl, hb⟩
  have B3 : Hid (Below w.heap.size w w3) := (below_drewN B2.out nq).trans (hb.mono B2.out.size)
  have X3 : Hid (PlnAt w3 b 0 x) := PlnAt.next (show PlnAt (w2.drewN nq) b 0 x from X2.out) hb
  clear hb a0 a1 a2 a3 a4
  have a0 := X3.out.1; have a1 := X3.out.2.1; have a2 := X3.out.2.2.1; have a3 := X3.out.2.2.2.1; have a4 := X3.out.2.2.2.2
  by_cases c6 : C = 0
  case neg =>
    have d6 : (C != 0) = true := by simp [c6]
    have HE' : Hid (R = C) := by show R = C; rw [HE.out, if_pos c6]
    clear c6
    go_wp2_with fail
    go_ret
    exact ⟨ret_int HE'.out.symm, B3.out⟩
  have d6 : (C != 0) = false := by simp [c6]
  rw [if_neg (fun k => k c6)] at HE
  clear c6
  by_cases c7 : 0 < x.ms.length
  · have HE' : Hid (R = 1) := by show R = 1; rw [HE.out, if_pos c7]
    go_wp2_with fail
    go_ret
    exact ⟨ret_int HE'.out.symm, B3.out⟩
  · have HE' : Hid (R = 0) := by show R = 0; rw [HE.out, if_neg c7]
    go_wp2_with fail
    go_ret
    exact ⟨ret_int HE'.out.symm, B3.out⟩

set_option maxRecDepth 100000 in
set_option maxHeartbeats 8000000 in
theorem checkVersion_later (p : Option Addr) (n cap : Nat) (o x : Pln) (l : List Pln) (w : World) (hE : Env w) (hL : PlnsAt w p l) (hl : l.length = n) (hn : n ≤ 16) (h0 : 0 < n) (ho : l[n - 1]? = some o) (hP : PlnOk w x) (hF : Fit x) (hG : Fit o) :
    Calls Tryd.prog 12 #[.slice p n cap, x.val] w fun e w' => e = .returned (.int .i64 (vrsE (some o) n x)) ∧ Below w.heap.size w w' := by
  obtain ⟨n1, n2, z1, z2⟩ := hF
  obtain ⟨m1, m2, y1, y2⟩ := hG
  obtain ⟨blk, off, rfl, hpo, hko⟩ := hL.get ho
  have O0 := Lib.hid hpo; have K0 := Lib.hid hko
  have zo := hpo.lt
  have g1 : decide ((n : Int) > 0) = true := by simp; omega
  have hw1 : IntKind.i64.wrap ((n : Int) + 1) = (n : Int) + 1 := IntWalk.i64_in _ (by omega)
  have hj1 : (0 : Int) ≤ (n : Int) - 1 := by omega
  have hj2 : (n : Int) - 1 < (n : Int) := by omega
  have hj3 : ((n : Int) - 1).toNat = n - 1 := by omega
  have hj4 : IntKind.i64.wrap ((n : Int) - 1) = (n : Int) - 1 := IntWalk.i64_in _ (by omega)
  have hk2 : (1 : Int) ≤ (n : Int) := by omega
  clear hpo hko hL hl ho
  have E0 := Lib.hid hE; have P0 := Lib.hid hP
  obtain ⟨W1, hW1⟩ : ∃ W1, W1 = w.alloc (.cells x.cells 34) := ⟨_, rfl⟩
  have B1 : Hid (Below w.heap.size w W1) := by rw [hW1]; exact (Below.refl _ _).alloc (Nat.le_refl _) _
  obtain ⟨b, hb⟩ : ∃ b, b = w.heap.size := ⟨_, rfl⟩
  have HB := Lib.hid hb
  have X1 : Hid (PlnAt W1 b 0 x) := by rw [hW1, hb]; exact pln_new w x 34
  have A1 := Lib.hid (fun w1 (h : Below w.heap.size w w1) => checkClasses_any x w1 (E0.out.below h) (P0.out.next h) n1 z1)
  have A2 := Lib.hid (fun w1 (h : Below w.heap.size w w1) => checkStep_any o x w1 (E0.out.below h) (K0.out.next h) (P0.out.next h) m1 n1 n2 y1 z2)
  have HE : Hid (vrsE (some o) n x = if ¬ (x.v = (n : Int) + 1 ∧ 0 ≤ x.f ∧ x.f < x.u ∧ x.u ≤ 1048576) then 2 else if x.f ≠ o.u then 16 else if 128 < x.cs.length ∨ 128 < x.ms.length then 8 else if clsE x.cs ≠ 0 then clsE x.cs else stpE o x) := rfl
  obtain ⟨R, hR⟩ : ∃ R, R = vrsE (some o) n x := ⟨_, rfl⟩
  obtain ⟨S, hS⟩ : ∃ S, S = stpE o x := ⟨_, rfl⟩
  rw [← hS] at HE A2
  clear m1 m2 y1 y2 hS
  rw [← hR] at HE ⊢
  obtain ⟨C, hC⟩ : ∃ C, C = clsE x.cs := ⟨_, rfl⟩
  rw [← hC] at HE A1
  unfold Pln.val at A1 A2 ⊢
  unfold Pln.cells at hW1
  clear hE hP z1 z2 hR hC
  have a0 := X1.out.1; have a1 := X1.out.2.1; have a2 := X1.out.2.2.1; have a3 := X1.out.2.2.2.1; have a4 := X1.out.2.2.2.2
  by_cases c1 : x.v = (n : Int) + 1
  case neg =>
    have d1 : (x.v != (n : Int) + 1) = true := by simp [c1]
    have HE' : Hid (R = 2) := by show R = 2; rw [HE.out, if_pos (fun k => c1 (by have := k.1; omega))]
    clear c1
    go_enter Tryd.func12, Tryd.ntmps12
    go_wp2_with fail
    rw [← hW1, ← hb]
    clear hb
    go_wp2_with fail
    go_ret
    exact ⟨ret_int HE'.out.symm, by first | exact B1.out | (rw [HB.out]; exact B1.out)⟩
  have d1 : (x.v != (n : Int) + 1) = false := by simp [c1]
  by_cases c2 : spn x.f x.u
  case neg =>
    have e2 : decide (spn x.f x.u) = false := decide_eq_false c2
    have HE' : Hid (R = 2) := by show R = 2; rw [HE.out, if_pos (fun k => c2 k.2)]
    clear c1 c2
    go_enter Tryd.func12, Tryd.ntmps12
    go_wp2_with fail
    rw [← hW1, ← hb]
    clear hb
    go_wp2_with fail
    refine (Valid_any _ _ _).mono ?_
    rintro e w2 ⟨rfl, hb⟩
    rw [e2]
    have B2 := Lib.hid (B1.out.trans (hb.mono B1.out.size))
    have X2 := Lib.hid (X1.out.next hb)
    clear hb a0 a1 a2 a3 a4
    have a0 := X2.out.1; have a1 := X2.out.2.1; have a2 := X2.out.2.2.1; have a3 := X2.out.2.2.2.1; have a4 := X2.out.2.2.2.2
    go_wp2_with fail
    go_ret
    exact ⟨ret_int HE'.out.symm, B2.out⟩
  have e2 : decide (spn x.f x.u) = true := decide_eq_true c2
  have H1 : ¬ ¬ (x.v = (n : Int) + 1 ∧ 0 ≤ x.f ∧ x.f < x.u ∧ x.u ≤ 1048576) := fun k => k ⟨by omega, c2⟩
  rw [if_neg H1] at HE
  clear H1 c1 c2
  have q0 := O0.out.1; have q1 := O0.out.2.1; have q2 := O0.out.2.2.1; have q3 := O0.out.2.2.2.1; have q4 := O0.out.2.2.2.2
  by_cases c3 : x.f = o.u
  case neg =>
    have d3 : (x.f != o.u) = true := by simp [c3]
    have HE' : Hid (R = 16) := by show R = 16; rw [HE.out, if_pos c3]
    have QA := Lib.hid (O0.out.next B1.out)
    clear c3 q0 q1 q2 q3 q4
    go_enter Tryd.func12, Tryd.ntmps12
    go_wp2_with fail
    rw [← hW1, ← hb]
    clear hb
    go_wp2_with fail
    refine (Valid_any _ _ _).mono ?_
    rintro e w2 ⟨rfl, hb⟩
    rw [e2]
    have B2 := Lib.hid (B1.out.trans (hb.mono B1.out.size))
    have X2 := Lib.hid (X1.out.next hb)
    have Q2 := Lib.hid (QA.out.next hb)
    clear hb a0 a1 a2 a3 a4
    have a0 := X2.out.1; have a1 := X2.out.2.1; have a2 := X2.out.2.2.1; have a3 := X2.out.2.2.2.1; have a4 := X2.out.2.2.2.2
    go_wp2_with fail
    have q0 := Q2.out.1; have q1 := Q2.out.2.1; have q2 := Q2.out.2.2.1; have q3 := Q2.out.2.2.2.1; have q4 := Q2.out.2.2.2.2
    have zo2 := Q2.out.lt
    go_quiet (fail)
    go_wp2_with fail
    go_ret
    exact ⟨ret_int HE'.out.symm, below_drewN B2.out _⟩
  have d3 : (x.f != o.u) = false := by simp [c3]
  rw [if_neg (fun k => k c3)] at HE
  have QA := Lib.hid (O0.out.next B1.out)
  clear c3 q0 q1 q2 q3 q4
  by_cases c4 : 128 < x.cs.length
  case pos =>
    have e4 : decide ((x.cs.length : Int) > 128) = true := by simp; omega
    have HE' : Hid (R = 8) := by show R = 8; rw [HE.out, if_pos (.inl c4)]
    clear c4
    go_enter Tryd.func12, Tryd.ntmps12
    go_wp2_with fail
    rw [← hW1, ← hb]
    clear hb
    go_wp2_with fail
    refine (Valid_any _ _ _).mono ?_
    rintro e w2 ⟨rfl, hb⟩
    rw [e2]
    have B2 := Lib.hid (B1.out.trans (hb.mono B1.out.size))
    have X2 := Lib.hid (X1.out.next hb)
    have Q2 := Lib.hid (QA.out.next hb)
    clear hb a0 a1 a2 a3 a4
    have a0 := X2.out.1; have a1 := X2.out.2.1; have a2 := X2.out.2.2.1; have a3 := X2.out.2.2.2.1; have a4 := X2.out.2.2.2.2
    go_wp2_with fail
    have q0 := Q2.out.1; have q1 := Q2.out.2.1; have q2 := Q2.out.2.2.1; have q3 := Q2.out.2.2.2.1; have q4 := Q2.out.2.2.2.2
    have zo2 := Q2.out.lt
    go_quiet (fail)
    go_wp2_with fail
    go_ret
    exact ⟨ret_int HE'.out.symm, below_drewN B2.out _⟩
  have e4 : decide ((x.cs.length : Int) > 128) = false := by simp; omega
  by_cases c5 : 128 < x.ms.length
  case pos =>
    have e5 : decide ((x.ms.length : Int) > 128) = true := by simp; omega
    have HE' : Hid (R = 8) := by show R = 8; rw [HE.out, if_pos (.inr c5)]
    clear c5
    go_enter Tryd.func12, Tryd.ntmps12
    go_wp2_with fail
    rw [← hW1, ← hb]
    clear hb
    go_wp2_with fail
    refine (Valid_any _ _ _).mono ?_
    rintro e w2 ⟨rfl, hb⟩
    rw [e2]
    have B2 := Lib.hid (B1.out.trans (hb.mono B1.out.size))
    have X2 := Lib.hid (X1.out.next hb)
    have Q2 := Lib.hid (QA.out.next hb)
    clear hb a0 a1 a2 a3 a4
    have a0 := X2.out.1; have a1 := X2.out.2.1; have a2 := X2.out.2.2.1; have a3 := X2.out.2.2.2.1; have a4 := X2.out.2.2.2.2
    go_wp2_with fail
    have q0 := Q2.out.1; have q1 := Q2.out.2.1; have q2 := Q2.out.2.2.1; have q3 := Q2.out.2.2.2.1; have q4 := Q2.out.2.2.2.2
    have zo2 := Q2.out.lt
    go_quiet (fail)
    go_wp2_with fail
    go_ret
    exact ⟨ret_int HE'.out.symm, below_drewN B2.out _⟩
  have e5 : decide ((x.ms.length : Int) > 128) = false := by simp; omega
  rw [if_neg (fun k => k.elim c4 c5)] at HE
  clear c4 c5
  go_enter Tryd.func12, Tryd.ntmps12
  go_wp2_with fail
  rw [← hW1, ← hb]
  clear hb
  go_wp2_with fail
  refine (Valid_any _ _ _).mono ?_
  rintro e w2 ⟨rfl, hb⟩
  rw [e2]
  have B2 := Lib.hid (B1.out.trans (hb.mono B1.out.size))
  have X2 := Lib.hid (X1.out.next hb)
  have Q2 := Lib.hid (QA.out.next hb)
  clear hb a0 a1 a2 a3 a4
  have a0 := X2.out.1; have a1 := X2.out.2.1; have a2 := X2.out.2.2.1; have a3 := X2.out.2.2.2.1; have a4 := X2.out.2.2.2.2
  go_wp2_with fail
  have q0 := Q2.out.1; have q1 := Q2.out.2.1; have q2 := Q2.out.2.2.1; have q3 := Q2.out.2.2.2.1; have q4 := Q2.out.2.2.2.2
  have zo2 := Q2.out.lt
  go_quiet (fail)
  go_wp2_with fail
  refine (A1.out _ (below_drewN B2.out _)).mono ?_
  rintro e w3 ⟨rfl, hb⟩
  have B3 : Hid (Below w.heap.size w w3) := (below_drewN B2.out nq).trans (hb.mono B2.out.size)
  have X3 : Hid (PlnAt w3 b 0 x) := PlnAt.next (show PlnAt (w2.drewN nq) b 0 x from X2.out) hb
  have Q3 : Hid (PlnAt w3 blk (off + (n - 1) * 5) o) := PlnAt.next (show PlnAt (w2.drewN nq) blk (off + (n - 1) * 5) o from Q2.out) hb
  clear q0 q1 q2 q3 q4 zo2
  clear hb a0 a1 a2 a3 a4
  have a0 := X3.out.1; have a1 := X3.out.2.1; have a2 := X3.out.2.2.1; have a3 := X3.out.2.2.2.1; have a4 := X3.out.2.2.2.2
  by_cases c6 : C = 0
  case neg =>
    have d6 : (C != 0) = true := by simp [c6]
    have HE' : Hid (R = C) := by show R = C; rw [HE.out, if_pos c6]
    clear c6
    go_wp2_with fail
    go_ret
    exact ⟨ret_int HE'.out.symm, B3.out⟩
  have d6 : (C != 0) = false := by simp [c6]
  rw [if_neg (fun k => k c6)] at HE
  clear c6
  have HS : Hid ((w3.cell? ⟨b, 0, none⟩ = some (.int .i64 x.v) ∧ w3.cell? ⟨b, 1, none⟩ = some (.int .i64 x.f) ∧ w3.cell? ⟨b, 2, none⟩ = some (.int .i64 x.u) ∧ w3.cell? ⟨b, 3, none⟩ = some (.slice x.cp x.cs.length x.cc) ∧ w3.cell? ⟨b, 4, none⟩ = some (.slice x.mp x.ms.length x.mc)) ∧
    w3.cell? ⟨blk, off + (n - 1) * 5, none⟩ = some (.int .i64 o.v) ∧ w3.cell? ⟨blk, off + (n - 1) * 5 + 1, none⟩ = some (.int .i64 o.f) ∧ w3.cell? ⟨blk, off + (n - 1) * 5 + 2, none⟩ = some (.int .i64 o.u) ∧ w3.cell? ⟨blk, off + (n - 1) * 5 + 3, none⟩ = some (.slice o.cp o.cs.length o.cc) ∧ w3.cell? ⟨blk, off + (n - 1) * 5 + 4, none⟩ = some (.slice o.mp o.ms.length o.mc)) := ⟨X3.out, Q3.out⟩
  have q0 := Q3.out.1; have q1 := Q3.out.2.1; have q2 := Q3.out.2.2.1; have q3 := Q3.out.2.2.2.1; have q4 := Q3.out.2.2.2.2
  have HE' : Hid (R = S) := HE.out
  go_wp2_with fail
  go_region_held3 (fun v => (v.cell? ⟨b, 0, none⟩ = some (.int .i64 x.v) ∧ v.cell? ⟨b, 1, none⟩ = some (.int .i64 x.f) ∧ v.cell? ⟨b, 2, none⟩ = some (.int .i64 x.u) ∧ v.cell? ⟨b, 3, none⟩ = some (.slice x.cp x.cs.length x.cc) ∧ v.cell? ⟨b, 4, none⟩ = some (.slice x.mp x.ms.length x.mc)) ∧
    v.cell? ⟨blk, off + (n - 1) * 5, none⟩ = some (.int .i64 o.v) ∧ v.cell? ⟨blk, off + (n - 1) * 5 + 1, none⟩ = some (.int .i64 o.f) ∧ v.cell? ⟨blk, off + (n - 1) * 5 + 2, none⟩ = some (.int .i64 o.u) ∧ v.cell? ⟨blk, off + (n - 1) * 5 + 3, none⟩ = some (.slice o.cp o.cs.length o.cc) ∧ v.cell? ⟨blk, off + (n - 1) * 5 + 4, none⟩ = some (.slice o.mp o.ms.length o.mc)) (first | exact HS.out | assumption)
    ((first
      | (go_at_call 25; refine (A2.out _ (below_drewN B3.out 1)).mono ?_; rintro e w4 ⟨rfl, hb4⟩; have B4 : Hid (Below w.heap.size w w4) := (below_drewN B3.out 1).trans (hb4.mono B3.out.size); have hs4 : (w4.cell? ⟨b, 0, none⟩ = some (.int .i64 x.v) ∧ w4.cell? ⟨b, 1, none⟩ = some (.int .i64 x.f) ∧ w4.cell? ⟨b, 2, none⟩ = some (.int .i64 x.u) ∧ w4.cell? ⟨b, 3, none⟩ = some (.slice x.cp x.cs.length x.cc) ∧ w4.cell? ⟨b, 4, none⟩ = some (.slice x.mp x.ms.length x.mc)) ∧     w4.cell? ⟨blk, off + (n - 1) * 5, none⟩ = some (.int .i64 o.v) ∧ w4.cell? ⟨blk, off + (n - 1) * 5 + 1, none⟩ = some (.int .i64 o.f) ∧ w4.cell? ⟨blk, off + (n - 1) * 5 + 2, none⟩ = some (.int .i64 o.u) ∧ w4.cell? ⟨blk, off + (n - 1) * 5 + 3, none⟩ = some (.slice o.cp o.cs.length o.cc) ∧ w4.cell? ⟨blk, off + (n - 1) * 5 + 4, none⟩ = some (.slice o.mp o.ms.length o.mc) := ⟨PlnAt.next (show PlnAt w3.drew b 0 x from X3.out) hb4, PlnAt.next (show PlnAt w3.drew blk (off + (n - 1) * 5) o from Q3.out) hb4⟩)))
  go_wp2_with fail
  go_ret
  exact ⟨ret_int HE'.out.symm, B4.out⟩

end Go.Proofs.YtbjbioiggjhknaaDoor
