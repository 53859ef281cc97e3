/-
  What Set and Clear answer where the timeline or the span is not valid, in package timeline and in its reference. No statement of the seat is proved here.
-/
import Derived.Test.YtcgjhbjbfdbfaaaFd
namespace Go.Proofs.Ytcgjhbjbfdbfaaa
open Go.RowKit

/-- The error for the list, then the one for the span. -/
def badE (E a b : Int) : Int := if E ≠ 0 then E else if spn a b then 0 else 2
abbrev ChecksTo (fn : Nat) (p : Option Addr) (n cap : Nat) (F U V : Nat → Int) (E : Int) : Prop :=
  ∀ w, PcsAt w p n F U V → Calls Try.prog fn #[.slice p n cap] w fun e w' => e = .returned (.int .i64 E) ∧ Below w.heap.size w w'

set_option maxHeartbeats 2000000 in
theorem without_bad (p : Option Addr) (n cap : Nat) (F U V : Nat → Int) (a b E X : Int) (w : World) (hP : PcsAt w p n F U V) (hX : X = badE E a b) (h0 : X ≠ 0)
    (C : ChecksTo 16 p n cap F U V E) :
    Calls Try.prog 35 #[.slice p n cap, .agg #[.int .i64 a, .int .i64 b]] w fun e w' => e = .returned (.tuple #[.slice none 0 0, .int .i64 X]) ∧ Below w.heap.size w w' := by
  have HP := Lib.hid (hP.below ((Below.refl _ _).alloc (Nat.le_refl _) (.cells #[.int .i64 a, .int .i64 b] 33))); have D := Lib.hid C
  clear hP C
  by_cases hE : E = 0
  · subst hE
    have hs : ¬ spn a b := fun h => h0 (by rw [hX, badE, if_neg (by simp), if_pos h])
    have es : decide (spn a b) = false := decide_eq_false hs
    obtain rfl : X = 2 := by rw [hX, badE, if_neg (by simp), if_neg hs]
    clear hX hs h0
    go_enter Try.func35, Try.ntmps35
    go_wp2_with fail
    refine (D.out _ HP.out).mono ?_
    rintro e w1 ⟨rfl, hb1⟩
    have c0 := (hb1.cell (p := ⟨w.heap.size, 0, none⟩) (by simp)).trans (World.cell?_alloc_new w _ 33 0)
    have c1 := (hb1.cell (p := ⟨w.heap.size, 1, none⟩) (by simp)).trans (World.cell?_alloc_new w _ 33 1)
    have B1 := Lib.hid (((Below.refl w.heap.size w).alloc (Nat.le_refl _) (.cells #[.int .i64 a, .int .i64 b] 33)).trans (hb1.mono (by simp)))
    clear hb1
    go_wp2_with fail
    refine (isSpan_any a b _).mono ?_
    rintro e w2 ⟨rfl, hb2⟩
    have B2 := Lib.hid (B1.out.trans (hb2.mono B1.out.size))
    clear hb2
    rw [es]
    go_wp2_with fail
    go_ret2
    exact ⟨rfl, B2.out⟩
  · have e : (E != 0) = true := by simpa using hE
    obtain rfl : X = E := by rw [hX, badE, if_pos hE]
    clear hX h0
    go_enter Try.func35, Try.ntmps35
    go_wp2_with fail
    refine (D.out _ HP.out).mono ?_
    rintro e w1 ⟨rfl, hb1⟩
    have B1 := Lib.hid (((Below.refl w.heap.size w).alloc (Nat.le_refl _) (.cells #[.int .i64 a, .int .i64 b] 33)).trans (hb1.mono (by simp)))
    clear hb1
    go_wp2_with fail
    go_ret2
    exact ⟨rfl, B1.out⟩

set_option maxHeartbeats 2000000 in
theorem change_bad (p : Option Addr) (n cap : Nat) (F U V : Nat → Int) (a b E X : Int) (v : Value) (w : World) (hP : PcsAt w p n F U V) (hX : X = badE E a b) (h0 : X ≠ 0)
    (C : ChecksTo 17 p n cap F U V E) :
    Calls Try.prog 39 #[.slice p n cap, .agg #[.int .i64 a, .int .i64 b], v] w fun e w' => e = .returned (.tuple #[.slice none 0 0, .int .i64 X]) ∧ Below w.heap.size w w' := by
  have HP := Lib.hid (hP.below ((Below.refl _ _).alloc (Nat.le_refl _) (.cells #[.int .i64 a, .int .i64 b] 33))); have D := Lib.hid C
  clear hP C
  by_cases hE : E = 0
  · subst hE
    have hs : ¬ spn a b := fun h => h0 (by rw [hX, badE, if_neg (by simp), if_pos h])
    have es : decide (spn a b) = false := decide_eq_false hs
    obtain rfl : X = 2 := by rw [hX, badE, if_neg (by simp), if_neg hs]
    clear hX hs h0
    go_enter Try.func39, Try.ntmps39
    go_wp2_with fail
    refine (D.out _ HP.out).mono ?_
    rintro e w1 ⟨rfl, hb1⟩
    have c0 := (hb1.cell (p := ⟨w.heap.size, 0, none⟩) (by simp)).trans (World.cell?_alloc_new w _ 33 0)
    have c1 := (hb1.cell (p := ⟨w.heap.size, 1, none⟩) (by simp)).trans (World.cell?_alloc_new w _ 33 1)
    have B1 := Lib.hid (((Below.refl w.heap.size w).alloc (Nat.le_refl _) (.cells #[.int .i64 a, .int .i64 b] 33)).trans (hb1.mono (by simp)))
    clear hb1
    go_wp2_with fail
    refine (Good_any a b _).mono ?_
    rintro e w2 ⟨rfl, hb2⟩
    have B2 := Lib.hid (B1.out.trans (hb2.mono B1.out.size))
    clear hb2
    rw [es]
    go_wp2_with fail
    go_ret2
    exact ⟨rfl, B2.out⟩
  · have e : (E != 0) = true := by simpa using hE
    obtain rfl : X = E := by rw [hX, badE, if_pos hE]
    clear hX h0
    go_enter Try.func39, Try.ntmps39
    go_wp2_with fail
    refine (D.out _ HP.out).mono ?_
    rintro e w1 ⟨rfl, hb1⟩
    have B1 := Lib.hid (((Below.refl w.heap.size w).alloc (Nat.le_refl _) (.cells #[.int .i64 a, .int .i64 b] 33)).trans (hb1.mono (by simp)))
    clear hb1
    go_wp2_with fail
    go_ret2
    exact ⟨rfl, B1.out⟩

set_option maxHeartbeats 2000000 in
theorem Set_bad (p : Option Addr) (n cap : Nat) (F U V : Nat → Int) (a b E X : Int) (v : Int) (w : World) (hP : PcsAt w p n F U V) (hX : X = badE E a b) (h0 : X ≠ 0)
    (C : ChecksTo 16 p n cap F U V E) :
    Calls Try.prog 20 #[.slice p n cap, .agg #[.int .i64 a, .int .i64 b], .int .i64 v] w fun e w' => e = .returned (.tuple #[.slice none 0 0, .int .i64 X]) ∧ Below w.heap.size w w' := by
  have D := Lib.hid (fun w hP => without_bad p n cap F U V a b E X w hP hX h0 C)
  have HP := Lib.hid hP
  have HP1 := Lib.hid (hP.below ((Below.refl _ _).alloc (Nat.le_refl _) (.cells #[.int .i64 a, .int .i64 b] 33)))
  have ex : (X != 0) = true := by simpa using h0
  clear hP C hX h0
  go_enter Try.func20, Try.ntmps20
  go_wp2_with fail
  refine (D.out _ HP1.out).mono ?_
  rintro e w1 ⟨rfl, hb1⟩
  have B1 : Hid (Below w.heap.size w w1) := ((Below.refl w.heap.size w).alloc (Nat.le_refl _) _).trans (hb1.mono (by simp))
  clear hb1
  go_wp2_with fail
  go_ret2
  exact ⟨rfl, B1.out⟩

set_option maxHeartbeats 2000000 in
theorem Clear_bad (p : Option Addr) (n cap : Nat) (F U V : Nat → Int) (a b E X : Int) (w : World) (hP : PcsAt w p n F U V) (hX : X = badE E a b) (h0 : X ≠ 0)
    (C : ChecksTo 16 p n cap F U V E) :
    Calls Try.prog 22 #[.slice p n cap, .agg #[.int .i64 a, .int .i64 b]] w fun e w' => e = .returned (.tuple #[.slice none 0 0, .int .i64 X]) ∧ Below w.heap.size w w' := by
  have D := Lib.hid (fun w hP => without_bad p n cap F U V a b E X w hP hX h0 C)
  have HP := Lib.hid hP
  have HP1 := Lib.hid (hP.below ((Below.refl _ _).alloc (Nat.le_refl _) (.cells #[.int .i64 a, .int .i64 b] 33)))
  have ex : (X != 0) = true := by simpa using h0
  clear hP C hX h0
  go_enter Try.func22, Try.ntmps22
  go_wp2_with fail
  refine (D.out _ HP1.out).mono ?_
  rintro e w1 ⟨rfl, hb1⟩
  have B1 : Hid (Below w.heap.size w w1) := ((Below.refl w.heap.size w).alloc (Nat.le_refl _) _).trans (hb1.mono (by simp))
  clear hb1
  go_wp2_with fail
  go_ret2
  exact ⟨rfl, B1.out⟩

set_option maxHeartbeats 2000000 in
theorem refSet_bad (p : Option Addr) (n cap : Nat) (F U V : Nat → Int) (a b E X : Int) (v : Int) (w : World) (hP : PcsAt w p n F U V) (hX : X = badE E a b) (h0 : X ≠ 0)
    (C : ChecksTo 17 p n cap F U V E) :
    Calls Try.prog 21 #[.slice p n cap, .agg #[.int .i64 a, .int .i64 b], .int .i64 v] w fun e w' => e = .returned (.tuple #[.slice none 0 0, .int .i64 X]) ∧ Below w.heap.size w w' := by
  have D := Lib.hid (fun v w hP => change_bad p n cap F U V a b E X v w hP hX h0 C)
  have HP := Lib.hid hP
  have HP1 := Lib.hid (hP.below ((Below.refl _ _).alloc (Nat.le_refl _) (.cells #[.int .i64 a, .int .i64 b] 33)))
  have ex : (X != 0) = true := by simpa using h0
  clear hP C hX h0
  go_enter Try.func21, Try.ntmps21
  go_wp2_with fail
  refine (D.out _ _ (HP1.out.below ((Below.refl _ _).alloc (Nat.le_refl _) _))).mono ?_
  rintro e w1 ⟨rfl, hb1⟩
  have B1 : Hid (Below w.heap.size w w1) := (((Below.refl w.heap.size w).alloc (Nat.le_refl _) _).alloc (by simp) _).trans (hb1.mono (by simp; omega))
  clear hb1
  go_wp2_with fail
  go_ret2
  exact ⟨rfl, B1.out⟩

set_option maxHeartbeats 2000000 in
theorem refClear_bad (p : Option Addr) (n cap : Nat) (F U V : Nat → Int) (a b E X : Int) (w : World) (hP : PcsAt w p n F U V) (hX : X = badE E a b) (h0 : X ≠ 0)
    (C : ChecksTo 17 p n cap F U V E) :
    Calls Try.prog 23 #[.slice p n cap, .agg #[.int .i64 a, .int .i64 b]] w fun e w' => e = .returned (.tuple #[.slice none 0 0, .int .i64 X]) ∧ Below w.heap.size w w' := by
  have D := Lib.hid (fun v w hP => change_bad p n cap F U V a b E X v w hP hX h0 C)
  have HP := Lib.hid hP
  have HP1 := Lib.hid (hP.below ((Below.refl _ _).alloc (Nat.le_refl _) (.cells #[.int .i64 a, .int .i64 b] 33)))
  have ex : (X != 0) = true := by simpa using h0
  clear hP C hX h0
  go_enter Try.func23, Try.ntmps23
  go_wp2_with fail
  refine (D.out _ _ HP1.out).mono ?_
  rintro e w1 ⟨rfl, hb1⟩
  have B1 : Hid (Below w.heap.size w w1) := ((Below.refl w.heap.size w).alloc (Nat.le_refl _) _).trans (hb1.mono (by simp))
  clear hb1
  go_wp2_with fail
  go_ret2
  exact ⟨rfl, B1.out⟩

end Go.Proofs.Ytcgjhbjbfdbfaaa
