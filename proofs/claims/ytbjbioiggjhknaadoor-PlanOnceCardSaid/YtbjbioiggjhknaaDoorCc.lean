/-
  checkClasses and checkStep. No statement of the seat is proved here.
-/
import Derived.Test.YtbjbioiggjhknaaDoorIn
namespace Go.Proofs.YtbjbioiggjhknaaDoor
open Go Go.RowKit

/-- Strings that a machine can hold. -/
def Szs (l : List Pr) : Prop := ∀ x ∈ l, x.c.size ≤ 140737488355328 ∧ x.t.size ≤ 140737488355328

set_option maxRecDepth 100000 in
set_option maxHeartbeats 8000000 in
theorem checkClasses_any (x : Pln) (w : World) (hE : Env w) (hP : PlnOk w x) (hn : (x.cs.length : Int) ≤ 4398046511104) (hz : Szs x.cs) :
    Calls Tryd.prog 24 #[x.val] w fun e w' => e = .returned (.int .i64 (clsE x.cs)) ∧ Below w.heap.size w w' := by
  have E0 := Lib.hid hE; have P0 := Lib.hid hP
  obtain ⟨W1, hW1⟩ : ∃ W1, W1 = w.alloc (.cells x.cells 34) := ⟨_, rfl⟩
  have B1 : Hid (Below w.heap.size w W1) := by rw [hW1]; exact (Below.refl _ _).alloc (Nat.le_refl _) _
  have X1 : Hid (PlnAt W1 w.heap.size 0 x) := by rw [hW1]; exact pln_new w x 34
  obtain ⟨b, hb⟩ : ∃ b, b = w.heap.size := ⟨_, rfl⟩
  have A1 := Lib.hid (fun w1 (h : Below w.heap.size w w1) (_ : PlnAt w1 b 0 x) => CF_87 x.cp x.cs.length x.cc x.cs (fun y => !isC y.c) Env (fun _ _ h hb => h.below hb) (fun y hy w2 h2 => noc87_any y w2 h2 (hz y hy).1) w1 (P0.out.next h).1 (E0.out.below h) rfl hn)
  have A2 := Lib.hid (fun w1 (h : Below w.heap.size w w1) (_ : PlnAt w1 b 0 x) => CF_88 x.cp x.cs.length x.cc x.cs (fun y => !nameB (bs y.t)) Env (fun _ _ h hb => h.below hb) (fun y hy w2 h2 => non88_any y w2 h2 (hz y hy).2) w1 (P0.out.next h).1 (E0.out.below h) rfl hn)
  have A3 := Lib.hid (fun w1 (h : Below w.heap.size w w1) (_ : PlnAt w1 b 0 x) => inc91_any x.cp x.cs.length x.cc x.cs w1 (E0.out.below h) (P0.out.next h).1 rfl hn (fun y hy => (hz y hy).1))
  have A4 := Lib.hid (fun w1 (h : Below w.heap.size w w1) (h2 : PlnAt w1 b 0 x) => CF_90 x.cp x.cs.length x.cc x.cs b (lacks x.cs) (fun w1 => Env w1 ∧ PlnAt w1 b 0 x ∧ PlnOk w1 x) (fun _ _ h hb => ⟨h.1.below hb, h.2.1.next hb, h.2.2.next hb⟩)
    (fun y hy w2 h2 => lac90_any x y b w2 h2.1 h2.2.1 h2.2.2 hn (hz y hy).1) w1 (P0.out.next h).1 ⟨E0.out.below h, h2, P0.out.next h⟩ rfl hn)
  have HE : Hid (clsE x.cs = if (x.cs.any fun y => !isC y.c) = true then 3 else if (x.cs.any fun y => !nameB (bs y.t)) = true then 4 else if incr (x.cs.map (·.c)) = false then 5 else if x.cs.any (lacks x.cs) = true then 7 else 0) := rfl
  obtain ⟨R, hR⟩ : ∃ R, R = clsE x.cs := ⟨_, rfl⟩
  rw [← hR] at HE ⊢
  obtain ⟨b1, h1⟩ : ∃ c, c = x.cs.any fun y => !isC y.c := ⟨_, rfl⟩
  obtain ⟨b2, h2⟩ : ∃ c, c = x.cs.any fun y => !nameB (bs y.t) := ⟨_, rfl⟩
  obtain ⟨b3, h3⟩ : ∃ c, c = incr (x.cs.map (·.c)) := ⟨_, rfl⟩
  obtain ⟨b4, h4⟩ : ∃ c, c = x.cs.any (lacks x.cs) := ⟨_, rfl⟩
  rw [← h1] at A1 HE
  rw [← h2] at A2 HE
  rw [← h3] at A3 HE
  rw [← h4] at A4 HE
  have X1' : Hid (PlnAt W1 b 0 x) := by rw [hb]; exact X1.out
  have HB := Lib.hid hb
  unfold Pln.val
  unfold Pln.cells at hW1
  clear hE hP hn hz hR h1 h2 h3 h4 X1
  have a0 := X1'.out.1; have a1 := X1'.out.2.1; have a2 := X1'.out.2.2.1; have a3 := X1'.out.2.2.2.1; have a4 := X1'.out.2.2.2.2
  go_enter Tryd.func24, Tryd.ntmps24
  go_wp2_with fail
  rw [← hW1, ← hb]
  clear hb
  go_wp2_with fail
  refine (A1.out _ B1.out X1'.out).mono ?_
  rintro e w2 ⟨rfl, hb⟩
  have B2 := Lib.hid (B1.out.trans (hb.mono B1.out.size))
  have X2 := Lib.hid (X1'.out.next hb)
  clear hb a0 a1 a2 a3 a4
  have a0 := X2.out.1; have a1 := X2.out.2.1; have a2 := X2.out.2.2.1; have a3 := X2.out.2.2.2.1; have a4 := X2.out.2.2.2.2
  cases b1 with
  | true =>
    have HE' : Hid (R = 3) := HE.out
    go_wp2_with fail
    go_ret
    exact ⟨ret_int HE'.out.symm, B2.out⟩
  | false =>
  go_wp2_with fail
  refine (A2.out _ B2.out X2.out).mono ?_
  rintro e w3 ⟨rfl, hb⟩
  have B3 := Lib.hid (B2.out.trans (hb.mono B2.out.size))
  have X3 := Lib.hid (X2.out.next hb)
  clear hb a0 a1 a2 a3 a4
  have a0 := X3.out.1; have a1 := X3.out.2.1; have a2 := X3.out.2.2.1; have a3 := X3.out.2.2.2.1; have a4 := X3.out.2.2.2.2
  cases b2 with
  | true =>
    have HE' : Hid (R = 4) := HE.out
    go_wp2_with fail
    go_ret
    exact ⟨ret_int HE'.out.symm, B3.out⟩
  | false =>
  go_wp2_with fail
  refine (A3.out _ B3.out X3.out).mono ?_
  rintro e w4 ⟨rfl, hb⟩
  have B4 := Lib.hid (B3.out.trans (hb.mono B3.out.size))
  have X4 := Lib.hid (X3.out.next hb)
  clear hb a0 a1 a2 a3 a4
  have a0 := X4.out.1; have a1 := X4.out.2.1; have a2 := X4.out.2.2.1; have a3 := X4.out.2.2.2.1; have a4 := X4.out.2.2.2.2
  cases b3 with
  | false =>
    have HE' : Hid (R = 5) := HE.out
    go_wp2_with fail
    go_ret
    exact ⟨ret_int HE'.out.symm, B4.out⟩
  | true =>
  go_wp2_with fail
  refine (A4.out _ B4.out X4.out).mono ?_
  rintro e w5 ⟨rfl, hb⟩
  have B5 := Lib.hid (B4.out.trans (hb.mono B4.out.size))
  clear hb a0 a1 a2 a3 a4
  cases b4 with
  | true =>
    have HE' : Hid (R = 7) := HE.out
    go_wp2_with fail
    go_ret
    exact ⟨ret_int HE'.out.symm, B5.out⟩
  | false =>
    have HE' : Hid (R = 0) := HE.out
    go_wp2_with fail
    go_ret
    exact ⟨ret_int HE'.out.symm, B5.out⟩

set_option maxRecDepth 100000 in
set_option maxHeartbeats 8000000 in
theorem checkStep_any (o x : Pln) (w : World) (hE : Env w) (hO : PlnOk w o) (hP : PlnOk w x) (n0 : (o.cs.length : Int) ≤ 4398046511104) (hn : (x.cs.length : Int) ≤ 4398046511104) (nm : (x.ms.length : Int) ≤ 4398046511104) (hz : Szs o.cs) (hzm : Szs x.ms) :
    Calls Tryd.prog 25 #[o.val, x.val] w fun e w' => e = .returned (.int .i64 (stpE o x)) ∧ Below w.heap.size w w' := by
  have E0 := Lib.hid hE; have P0 := Lib.hid hP; have O0 := Lib.hid hO
  obtain ⟨W1, hW1⟩ : ∃ W1, W1 = (w.alloc (.cells o.cells 34)).alloc (.cells x.cells 34) := ⟨_, rfl⟩
  have B1 : Hid (Below w.heap.size w W1) := by rw [hW1]; exact ((Below.refl _ _).alloc (Nat.le_refl _) _).alloc (by simp) _
  obtain ⟨b, hb⟩ : ∃ b, b = w.heap.size := ⟨_, rfl⟩
  have X1 : Hid (PlnAt W1 (b + 1) 0 x) := by rw [hW1, hb]; exact (two_new w o x 34).2
  have Y1 : Hid (PlnAt W1 b 0 o) := by rw [hW1, hb]; exact (two_new w o x 34).1
  have A1 := Lib.hid (fun w1 (h : Below w.heap.size w w1) (h2 : PlnAt w1 b 0 o) (h3 : PlnAt w1 (b + 1) 0 x) => CF_93 x.mp x.ms.length x.mc x.ms b (b + 1) (fun m => !has o.cs m.c || !has x.cs m.t) (fun w1 => PlnAt w1 b 0 o ∧ PlnAt w1 (b + 1) 0 x ∧ PlnOk w1 o ∧ PlnOk w1 x) (fun _ _ h hb => ⟨h.1.next hb, h.2.1.next hb, h.2.2.1.next hb, h.2.2.2.next hb⟩)
    (fun y hy w2 h2 => unk93_any o x y b (b + 1) w2 h2.1 h2.2.1 h2.2.2.1 h2.2.2.2 n0 hn) w1 (P0.out.next h).2 ⟨h2, h3, O0.out.next h, P0.out.next h⟩ rfl nm)
  have A2 := Lib.hid (fun w1 (h : Below w.heap.size w w1) => inc96_any x.mp x.ms.length x.mc x.ms w1 (E0.out.below h) (P0.out.next h).2 rfl nm (fun y hy => (hzm y hy).1))
  have A3 := Lib.hid (fun w1 (h : Below w.heap.size w w1) (h2 : PlnAt w1 b 0 o) (h3 : PlnAt w1 (b + 1) 0 x) => CF_94 o.cp o.cs.length o.cc o.cs b (b + 1) (fun y => (nxt o x y.c).isNone) (fun w1 => Env w1 ∧ PlnAt w1 b 0 o ∧ PlnAt w1 (b + 1) 0 x ∧ PlnOk w1 o ∧ PlnOk w1 x) (fun _ _ h hb => ⟨h.1.below hb, h.2.1.next hb, h.2.2.1.next hb, h.2.2.2.1.next hb, h.2.2.2.2.next hb⟩)
    (fun y hy w2 h2 => los94_any o x y b (b + 1) w2 h2.1 h2.2.1 h2.2.2.1 h2.2.2.2.1 h2.2.2.2.2 n0 hn nm (hz y hy).1) w1 (O0.out.next h).1 ⟨E0.out.below h, h2, h3, O0.out.next h, P0.out.next h⟩ rfl n0)
  have HE : Hid (stpE o x = if (x.ms.any fun m => !has o.cs m.c || !has x.cs m.t) = true then 7 else if incr (x.ms.map (·.c)) = false then 5 else if (o.cs.any fun y => (nxt o x y.c).isNone) = true then 24 else 0) := rfl
  obtain ⟨R, hR⟩ : ∃ R, R = stpE o x := ⟨_, rfl⟩
  rw [← hR] at HE ⊢
  obtain ⟨b1, h1⟩ : ∃ c, c = x.ms.any fun m => !has o.cs m.c || !has x.cs m.t := ⟨_, rfl⟩
  obtain ⟨b2, h2⟩ : ∃ c, c = incr (x.ms.map (·.c)) := ⟨_, rfl⟩
  obtain ⟨b3, h3⟩ : ∃ c, c = o.cs.any fun y => (nxt o x y.c).isNone := ⟨_, rfl⟩
  rw [← h1] at A1 HE
  rw [← h2] at A2 HE
  rw [← h3] at A3 HE
  unfold Pln.val
  unfold Pln.cells at hW1
  clear hE hP hO n0 hn nm hz hzm hR h1 h2 h3
  have a0 := X1.out.1; have a1 := X1.out.2.1; have a2 := X1.out.2.2.1; have a3 := X1.out.2.2.2.1; have a4 := X1.out.2.2.2.2
  go_enter Tryd.func25, Tryd.ntmps25
  go_wp2_with fail
  rw [← hW1, ← hb]
  clear hb
  go_wp2_with fail
  refine (A1.out _ B1.out Y1.out X1.out).mono ?_
  rintro e w2 ⟨rfl, hb⟩
  have B2 := Lib.hid (B1.out.trans (hb.mono B1.out.size))
  have X2 := Lib.hid (X1.out.next hb); have Y2 := Lib.hid (Y1.out.next hb)
  clear hb a0 a1 a2 a3 a4
  have a0 := X2.out.1; have a1 := X2.out.2.1; have a2 := X2.out.2.2.1; have a3 := X2.out.2.2.2.1; have a4 := X2.out.2.2.2.2
  cases b1 with
  | true =>
    have HE' : Hid (R = 7) := HE.out
    go_wp2_with fail
    go_ret
    exact ⟨ret_int HE'.out.symm, B2.out⟩
  | false =>
  go_wp2_with fail
  refine (A2.out _ B2.out).mono ?_
  rintro e w3 ⟨rfl, hb⟩
  have B3 := Lib.hid (B2.out.trans (hb.mono B2.out.size))
  have X3 := Lib.hid (X2.out.next hb); have Y3 := Lib.hid (Y2.out.next hb)
  clear hb a0 a1 a2 a3 a4
  have a0 := Y3.out.1; have a1 := Y3.out.2.1; have a2 := Y3.out.2.2.1; have a3 := Y3.out.2.2.2.1; have a4 := Y3.out.2.2.2.2
  cases b2 with
  | false =>
    have HE' : Hid (R = 5) := HE.out
    go_wp2_with fail
    go_ret
    exact ⟨ret_int HE'.out.symm, B3.out⟩
  | true =>
  go_wp2_with fail
  refine (A3.out _ B3.out Y3.out X3.out).mono ?_
  rintro e w4 ⟨rfl, hb⟩
  have B4 := Lib.hid (B3.out.trans (hb.mono B3.out.size))
  clear hb a0 a1 a2 a3 a4
  cases b3 with
  | true =>
    have HE' : Hid (R = 24) := HE.out
    go_wp2_with fail
    go_ret
    exact ⟨ret_int HE'.out.symm, B4.out⟩
  | false =>
    have HE' : Hid (R = 0) := HE.out
    go_wp2_with fail
    go_ret
    exact ⟨ret_int HE'.out.symm, B4.out⟩

end Go.Proofs.YtbjbioiggjhknaaDoor
