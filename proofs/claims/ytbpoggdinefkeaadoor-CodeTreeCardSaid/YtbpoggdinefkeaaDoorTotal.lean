/-
  PROVED HERE: the law archivumlaw05.CodeTotal answers true for all strings: the order of codes is total and transitive, and what lies between a code and one within it is within it. No condition. Every input is spoken of.
-/
import Derived.Test.YtbpoggdinefkeaaDoorKit
namespace Go.Proofs.YtbpoggdinefkeaaDoor
open Go.ChangeShapes Go.WideShapes Go.ChangeAt Go.RowKit Go.Joins

/-- What Compare answers, in one form. -/
def CmpAns (a b : ByteArray) (x e : Int) : Prop := ∀ w, Env w → Calls Tryd.prog 17 #[.string a, .string b] w fun r w' => r = .returned (.tuple #[.int .i64 x, .int .i64 e]) ∧ Below w.heap.size w w'
def WithAns (a b : ByteArray) (t : Bool) : Prop := ∀ w, Env w → Calls Tryd.prog 18 #[.string a, .string b] w fun r w' => r = .returned (.bool t) ∧ Below w.heap.size w w'

theorem total_big (a b c : ByteArray) (w : World) (hE : Env w) (h : 100 < a.size ∨ 100 < b.size ∨ 100 < c.size) (h1 : a.size ≤ maxLen) (h2 : b.size ≤ maxLen) (h3 : c.size ≤ maxLen) :
    Calls Tryd.prog 6 #[.string a, .string b, .string c] w fun e w' => e = .returned (.bool true) ∧ Below w.heap.size w w' := by
  unfold maxLen at h1 h2 h3
  rcases (show 100 < a.size ∨ (a.size ≤ 100 ∧ 100 < b.size) ∨ (a.size ≤ 100 ∧ b.size ≤ 100 ∧ 100 < c.size) by omega) with h | h | h
  · have d0 : decide ((a.size : Int) > 100) = true := by rw [decide_eq_true_iff]; omega
    go_enter Tryd.func6, Tryd.ntmps6
    go_wp2_with fail
    refine (awake_true _ hE).mono ?_
    rintro e w1 ⟨rfl, hb⟩
    have B := Lib.hid hb
    clear hb
    go_wp2_with fail
    go_ret
    exact ⟨rfl, B.out⟩
  · have d0 : decide ((a.size : Int) > 100) = false := by rw [decide_eq_false_iff_not]; omega
    have d1 : decide ((b.size : Int) > 100) = true := by rw [decide_eq_true_iff]; omega
    go_enter Tryd.func6, Tryd.ntmps6
    go_wp2_with fail
    refine (awake_true _ hE).mono ?_
    rintro e w1 ⟨rfl, hb⟩
    have B := Lib.hid hb
    clear hb
    go_wp2_with fail
    go_ret
    exact ⟨rfl, B.out⟩
  · have d0 : decide ((a.size : Int) > 100) = false := by rw [decide_eq_false_iff_not]; omega
    have d1 : decide ((b.size : Int) > 100) = false := by rw [decide_eq_false_iff_not]; omega
    have d2 : decide ((c.size : Int) > 100) = true := by rw [decide_eq_true_iff]; omega
    go_enter Tryd.func6, Tryd.ntmps6
    go_wp2_with fail
    refine (awake_true _ hE).mono ?_
    rintro e w1 ⟨rfl, hb⟩
    have B := Lib.hid hb
    clear hb
    go_wp2_with fail
    go_ret
    exact ⟨rfl, B.out⟩

set_option maxRecDepth 100000 in
set_option maxHeartbeats 4000000 in
theorem total_en (a b c : ByteArray) (y u v f h : Int) (w : World) (hE : Env w) (h1 : a.size ≤ 100) (h2 : b.size ≤ 100) (h3 : c.size ≤ 100) (c1 : CmpAns a b 0 3) (c2 : CmpAns b a y f) (c3 : CmpAns b c u 0) (c4 : CmpAns a c v h) :
    Calls Tryd.prog 6 #[.string a, .string b, .string c] w fun e w' => e = .returned (.bool true) ∧ Below w.heap.size w w' := by
  have d1 : decide ((a.size : Int) > 100) = false := by rw [decide_eq_false_iff_not]; omega
  have d2 : decide ((b.size : Int) > 100) = false := by rw [decide_eq_false_iff_not]; omega
  have d3 : decide ((c.size : Int) > 100) = false := by rw [decide_eq_false_iff_not]; omega
  have E0 := Lib.hid hE; have C1 := Lib.hid c1; have C2 := Lib.hid c2; have C3 := Lib.hid c3; have C4 := Lib.hid c4
  clear hE c1 c2 c3 c4
  go_enter Tryd.func6, Tryd.ntmps6
  go_wp2_with fail
  refine (awake_true _ E0.out).mono ?_
  rintro e w0 ⟨rfl, hb⟩
  have B0 := Lib.hid hb
  clear hb
  go_wp2_with fail
  refine (C1.out _ (E0.out.below B0.out)).mono ?_
  rintro e w1 ⟨rfl, hb⟩
  have B1 := Lib.hid (B0.out.trans (hb.mono B0.out.size))
  clear hb
  go_wp2_with fail
  refine (C2.out _ (E0.out.below B1.out)).mono ?_
  rintro e w2 ⟨rfl, hb⟩
  have B2 := Lib.hid (B1.out.trans (hb.mono B1.out.size))
  clear hb
  go_wp2_with fail
  refine (C3.out _ (E0.out.below B2.out)).mono ?_
  rintro e w3 ⟨rfl, hb⟩
  have B3 := Lib.hid (B2.out.trans (hb.mono B2.out.size))
  clear hb
  go_wp2_with fail
  refine (C4.out _ (E0.out.below B3.out)).mono ?_
  rintro e w4 ⟨rfl, hb⟩
  have B4 := Lib.hid (B3.out.trans (hb.mono B3.out.size))
  clear hb
  go_wp2_with fail
  go_ret
  exact ⟨rfl, B4.out⟩

set_option maxRecDepth 100000 in
set_option maxHeartbeats 4000000 in
theorem total_ne (a b c : ByteArray) (x y v f h : Int) (w : World) (hE : Env w) (h1 : a.size ≤ 100) (h2 : b.size ≤ 100) (h3 : c.size ≤ 100) (c1 : CmpAns a b x 0) (c2 : CmpAns b a y f) (c3 : CmpAns b c 0 3) (c4 : CmpAns a c v h) :
    Calls Tryd.prog 6 #[.string a, .string b, .string c] w fun e w' => e = .returned (.bool true) ∧ Below w.heap.size w w' := by
  have d1 : decide ((a.size : Int) > 100) = false := by rw [decide_eq_false_iff_not]; omega
  have d2 : decide ((b.size : Int) > 100) = false := by rw [decide_eq_false_iff_not]; omega
  have d3 : decide ((c.size : Int) > 100) = false := by rw [decide_eq_false_iff_not]; omega
  have E0 := Lib.hid hE; have C1 := Lib.hid c1; have C2 := Lib.hid c2; have C3 := Lib.hid c3; have C4 := Lib.hid c4
  clear hE c1 c2 c3 c4
  go_enter Tryd.func6, Tryd.ntmps6
  go_wp2_with fail
  refine (awake_true _ E0.out).mono ?_
  rintro e w0 ⟨rfl, hb⟩
  have B0 := Lib.hid hb
  clear hb
  go_wp2_with fail
  refine (C1.out _ (E0.out.below B0.out)).mono ?_
  rintro e w1 ⟨rfl, hb⟩
  have B1 := Lib.hid (B0.out.trans (hb.mono B0.out.size))
  clear hb
  go_wp2_with fail
  refine (C2.out _ (E0.out.below B1.out)).mono ?_
  rintro e w2 ⟨rfl, hb⟩
  have B2 := Lib.hid (B1.out.trans (hb.mono B1.out.size))
  clear hb
  go_wp2_with fail
  refine (C3.out _ (E0.out.below B2.out)).mono ?_
  rintro e w3 ⟨rfl, hb⟩
  have B3 := Lib.hid (B2.out.trans (hb.mono B2.out.size))
  clear hb
  go_wp2_with fail
  refine (C4.out _ (E0.out.below B3.out)).mono ?_
  rintro e w4 ⟨rfl, hb⟩
  have B4 := Lib.hid (B3.out.trans (hb.mono B3.out.size))
  clear hb
  go_wp2_with fail
  go_ret
  exact ⟨rfl, B4.out⟩

set_option maxRecDepth 100000 in
set_option maxHeartbeats 4000000 in
theorem total_nn (a b c : ByteArray) (y v f h : Int) (w : World) (hE : Env w) (h1 : a.size ≤ 100) (h2 : b.size ≤ 100) (h3 : c.size ≤ 100) (c1 : CmpAns a b 0 3) (c2 : CmpAns b a y f) (c3 : CmpAns b c 0 3) (c4 : CmpAns a c v h) :
    Calls Tryd.prog 6 #[.string a, .string b, .string c] w fun e w' => e = .returned (.bool true) ∧ Below w.heap.size w w' := by
  have d1 : decide ((a.size : Int) > 100) = false := by rw [decide_eq_false_iff_not]; omega
  have d2 : decide ((b.size : Int) > 100) = false := by rw [decide_eq_false_iff_not]; omega
  have d3 : decide ((c.size : Int) > 100) = false := by rw [decide_eq_false_iff_not]; omega
  have E0 := Lib.hid hE; have C1 := Lib.hid c1; have C2 := Lib.hid c2; have C3 := Lib.hid c3; have C4 := Lib.hid c4
  clear hE c1 c2 c3 c4
  go_enter Tryd.func6, Tryd.ntmps6
  go_wp2_with fail
  refine (awake_true _ E0.out).mono ?_
  rintro e w0 ⟨rfl, hb⟩
  have B0 := Lib.hid hb
  clear hb
  go_wp2_with fail
  refine (C1.out _ (E0.out.below B0.out)).mono ?_
  rintro e w1 ⟨rfl, hb⟩
  have B1 := Lib.hid (B0.out.trans (hb.mono B0.out.size))
  clear hb
  go_wp2_with fail
  refine (C2.out _ (E0.out.below B1.out)).mono ?_
  rintro e w2 ⟨rfl, hb⟩
  have B2 := Lib.hid (B1.out.trans (hb.mono B1.out.size))
  clear hb
  go_wp2_with fail
  refine (C3.out _ (E0.out.below B2.out)).mono ?_
  rintro e w3 ⟨rfl, hb⟩
  have B3 := Lib.hid (B2.out.trans (hb.mono B2.out.size))
  clear hb
  go_wp2_with fail
  refine (C4.out _ (E0.out.below B3.out)).mono ?_
  rintro e w4 ⟨rfl, hb⟩
  have B4 := Lib.hid (B3.out.trans (hb.mono B3.out.size))
  clear hb
  go_wp2_with fail
  go_ret
  exact ⟨rfl, B4.out⟩

set_option maxRecDepth 100000 in
set_option maxHeartbeats 4000000 in
theorem total_g (a b c : ByteArray) (u v : Int) (w : World) (hE : Env w) (h1 : a.size ≤ 100) (h2 : b.size ≤ 100) (h3 : c.size ≤ 100) (c1 : CmpAns a b (1) 0) (c2 : CmpAns b a (-1) 0) (c3 : CmpAns b c u 0) (c4 : CmpAns a c v 0)
    (q1 : (a.toList == b.toList) = false) :
    Calls Tryd.prog 6 #[.string a, .string b, .string c] w fun e w' => e = .returned (.bool true) ∧ Below w.heap.size w w' := by
  have d1 : decide ((a.size : Int) > 100) = false := by rw [decide_eq_false_iff_not]; omega
  have d2 : decide ((b.size : Int) > 100) = false := by rw [decide_eq_false_iff_not]; omega
  have d3 : decide ((c.size : Int) > 100) = false := by rw [decide_eq_false_iff_not]; omega
  have E0 := Lib.hid hE; have C1 := Lib.hid c1; have C2 := Lib.hid c2; have C3 := Lib.hid c3; have C4 := Lib.hid c4
  clear hE c1 c2 c3 c4
  go_enter Tryd.func6, Tryd.ntmps6
  go_wp2_with fail
  refine (awake_true _ E0.out).mono ?_
  rintro e w0 ⟨rfl, hb⟩
  have B0 := Lib.hid hb
  clear hb
  go_wp2_with fail
  refine (C1.out _ (E0.out.below B0.out)).mono ?_
  rintro e w1 ⟨rfl, hb⟩
  have B1 := Lib.hid (B0.out.trans (hb.mono B0.out.size))
  clear hb
  go_wp2_with fail
  refine (C2.out _ (E0.out.below B1.out)).mono ?_
  rintro e w2 ⟨rfl, hb⟩
  have B2 := Lib.hid (B1.out.trans (hb.mono B1.out.size))
  clear hb
  go_wp2_with fail
  refine (C3.out _ (E0.out.below B2.out)).mono ?_
  rintro e w3 ⟨rfl, hb⟩
  have B3 := Lib.hid (B2.out.trans (hb.mono B2.out.size))
  clear hb
  go_wp2_with fail
  refine (C4.out _ (E0.out.below B3.out)).mono ?_
  rintro e w4 ⟨rfl, hb⟩
  have B4 := Lib.hid (B3.out.trans (hb.mono B3.out.size))
  clear hb
  go_wp2_with fail
  go_ret
  exact ⟨rfl, B4.out⟩

set_option maxRecDepth 100000 in
set_option maxHeartbeats 4000000 in
theorem total_z1 (a b c : ByteArray) (u v : Int) (w : World) (hE : Env w) (h1 : a.size ≤ 100) (h2 : b.size ≤ 100) (h3 : c.size ≤ 100) (c1 : CmpAns a b (0) 0) (c2 : CmpAns b a (0) 0) (c3 : CmpAns b c u 0) (c4 : CmpAns a c v 0)
    (q1 : (a.toList == b.toList) = true) (q2 : decide (u ≤ 0) = false) :
    Calls Tryd.prog 6 #[.string a, .string b, .string c] w fun e w' => e = .returned (.bool true) ∧ Below w.heap.size w w' := by
  have d1 : decide ((a.size : Int) > 100) = false := by rw [decide_eq_false_iff_not]; omega
  have d2 : decide ((b.size : Int) > 100) = false := by rw [decide_eq_false_iff_not]; omega
  have d3 : decide ((c.size : Int) > 100) = false := by rw [decide_eq_false_iff_not]; omega
  have E0 := Lib.hid hE; have C1 := Lib.hid c1; have C2 := Lib.hid c2; have C3 := Lib.hid c3; have C4 := Lib.hid c4
  clear hE c1 c2 c3 c4
  go_enter Tryd.func6, Tryd.ntmps6
  go_wp2_with fail
  refine (awake_true _ E0.out).mono ?_
  rintro e w0 ⟨rfl, hb⟩
  have B0 := Lib.hid hb
  clear hb
  go_wp2_with fail
  refine (C1.out _ (E0.out.below B0.out)).mono ?_
  rintro e w1 ⟨rfl, hb⟩
  have B1 := Lib.hid (B0.out.trans (hb.mono B0.out.size))
  clear hb
  go_wp2_with fail
  refine (C2.out _ (E0.out.below B1.out)).mono ?_
  rintro e w2 ⟨rfl, hb⟩
  have B2 := Lib.hid (B1.out.trans (hb.mono B1.out.size))
  clear hb
  go_wp2_with fail
  refine (C3.out _ (E0.out.below B2.out)).mono ?_
  rintro e w3 ⟨rfl, hb⟩
  have B3 := Lib.hid (B2.out.trans (hb.mono B2.out.size))
  clear hb
  go_wp2_with fail
  refine (C4.out _ (E0.out.below B3.out)).mono ?_
  rintro e w4 ⟨rfl, hb⟩
  have B4 := Lib.hid (B3.out.trans (hb.mono B3.out.size))
  clear hb
  go_wp2_with fail
  go_ret
  exact ⟨rfl, B4.out⟩

set_option maxRecDepth 100000 in
set_option maxHeartbeats 4000000 in
theorem total_zf (a b c : ByteArray) (u v : Int) (w : World) (hE : Env w) (h1 : a.size ≤ 100) (h2 : b.size ≤ 100) (h3 : c.size ≤ 100) (c1 : CmpAns a b (0) 0) (c2 : CmpAns b a (0) 0) (c3 : CmpAns b c u 0) (c4 : CmpAns a c v 0)
    (q1 : (a.toList == b.toList) = true) (q2 : decide (u ≤ 0) = true) (q3 : decide (v > 0) = false) (W1 : WithAns c a false) :
    Calls Tryd.prog 6 #[.string a, .string b, .string c] w fun e w' => e = .returned (.bool true) ∧ Below w.heap.size w w' := by
  have d1 : decide ((a.size : Int) > 100) = false := by rw [decide_eq_false_iff_not]; omega
  have d2 : decide ((b.size : Int) > 100) = false := by rw [decide_eq_false_iff_not]; omega
  have d3 : decide ((c.size : Int) > 100) = false := by rw [decide_eq_false_iff_not]; omega
  have E0 := Lib.hid hE; have C1 := Lib.hid c1; have C2 := Lib.hid c2; have C3 := Lib.hid c3; have C4 := Lib.hid c4
  clear hE c1 c2 c3 c4
  have W1 := Lib.hid W1
  go_enter Tryd.func6, Tryd.ntmps6
  go_wp2_with fail
  refine (awake_true _ E0.out).mono ?_
  rintro e w0 ⟨rfl, hb⟩
  have B0 := Lib.hid hb
  clear hb
  go_wp2_with fail
  refine (C1.out _ (E0.out.below B0.out)).mono ?_
  rintro e w1 ⟨rfl, hb⟩
  have B1 := Lib.hid (B0.out.trans (hb.mono B0.out.size))
  clear hb
  go_wp2_with fail
  refine (C2.out _ (E0.out.below B1.out)).mono ?_
  rintro e w2 ⟨rfl, hb⟩
  have B2 := Lib.hid (B1.out.trans (hb.mono B1.out.size))
  clear hb
  go_wp2_with fail
  refine (C3.out _ (E0.out.below B2.out)).mono ?_
  rintro e w3 ⟨rfl, hb⟩
  have B3 := Lib.hid (B2.out.trans (hb.mono B2.out.size))
  clear hb
  go_wp2_with fail
  refine (C4.out _ (E0.out.below B3.out)).mono ?_
  rintro e w4 ⟨rfl, hb⟩
  have B4 := Lib.hid (B3.out.trans (hb.mono B3.out.size))
  clear hb
  go_wp2_with fail
  refine (W1.out _ (E0.out.below B4.out)).mono ?_
  rintro e w5 ⟨rfl, hb⟩
  have B5 := Lib.hid (B4.out.trans (hb.mono B4.out.size))
  clear hb
  go_wp2_with fail
  go_ret
  exact ⟨rfl, B5.out⟩

set_option maxRecDepth 100000 in
set_option maxHeartbeats 4000000 in
theorem total_zt (a b c : ByteArray) (u v : Int) (w : World) (hE : Env w) (h1 : a.size ≤ 100) (h2 : b.size ≤ 100) (h3 : c.size ≤ 100) (c1 : CmpAns a b (0) 0) (c2 : CmpAns b a (0) 0) (c3 : CmpAns b c u 0) (c4 : CmpAns a c v 0)
    (q1 : (a.toList == b.toList) = true) (q2 : decide (u ≤ 0) = true) (q3 : decide (v > 0) = false) (W1 : WithAns c a true) (W2 : WithAns b a true) :
    Calls Tryd.prog 6 #[.string a, .string b, .string c] w fun e w' => e = .returned (.bool true) ∧ Below w.heap.size w w' := by
  have d1 : decide ((a.size : Int) > 100) = false := by rw [decide_eq_false_iff_not]; omega
  have d2 : decide ((b.size : Int) > 100) = false := by rw [decide_eq_false_iff_not]; omega
  have d3 : decide ((c.size : Int) > 100) = false := by rw [decide_eq_false_iff_not]; omega
  have E0 := Lib.hid hE; have C1 := Lib.hid c1; have C2 := Lib.hid c2; have C3 := Lib.hid c3; have C4 := Lib.hid c4
  clear hE c1 c2 c3 c4
  have W1 := Lib.hid W1
  have W2 := Lib.hid W2
  go_enter Tryd.func6, Tryd.ntmps6
  go_wp2_with fail
  refine (awake_true _ E0.out).mono ?_
  rintro e w0 ⟨rfl, hb⟩
  have B0 := Lib.hid hb
  clear hb
  go_wp2_with fail
  refine (C1.out _ (E0.out.below B0.out)).mono ?_
  rintro e w1 ⟨rfl, hb⟩
  have B1 := Lib.hid (B0.out.trans (hb.mono B0.out.size))
  clear hb
  go_wp2_with fail
  refine (C2.out _ (E0.out.below B1.out)).mono ?_
  rintro e w2 ⟨rfl, hb⟩
  have B2 := Lib.hid (B1.out.trans (hb.mono B1.out.size))
  clear hb
  go_wp2_with fail
  refine (C3.out _ (E0.out.below B2.out)).mono ?_
  rintro e w3 ⟨rfl, hb⟩
  have B3 := Lib.hid (B2.out.trans (hb.mono B2.out.size))
  clear hb
  go_wp2_with fail
  refine (C4.out _ (E0.out.below B3.out)).mono ?_
  rintro e w4 ⟨rfl, hb⟩
  have B4 := Lib.hid (B3.out.trans (hb.mono B3.out.size))
  clear hb
  go_wp2_with fail
  refine (W1.out _ (E0.out.below B4.out)).mono ?_
  rintro e w5 ⟨rfl, hb⟩
  have B5 := Lib.hid (B4.out.trans (hb.mono B4.out.size))
  clear hb
  go_wp2_with fail
  refine (W2.out _ (E0.out.below B5.out)).mono ?_
  rintro e w6 ⟨rfl, hb⟩
  have B6 := Lib.hid (B5.out.trans (hb.mono B5.out.size))
  clear hb
  go_wp2_with fail
  go_ret
  exact ⟨rfl, B6.out⟩

set_option maxRecDepth 100000 in
set_option maxHeartbeats 4000000 in
theorem total_m1 (a b c : ByteArray) (u v : Int) (w : World) (hE : Env w) (h1 : a.size ≤ 100) (h2 : b.size ≤ 100) (h3 : c.size ≤ 100) (c1 : CmpAns a b (-1) 0) (c2 : CmpAns b a (1) 0) (c3 : CmpAns b c u 0) (c4 : CmpAns a c v 0)
    (q1 : (a.toList == b.toList) = false) (q2 : decide (u ≤ 0) = false) :
    Calls Tryd.prog 6 #[.string a, .string b, .string c] w fun e w' => e = .returned (.bool true) ∧ Below w.heap.size w w' := by
  have d1 : decide ((a.size : Int) > 100) = false := by rw [decide_eq_false_iff_not]; omega
  have d2 : decide ((b.size : Int) > 100) = false := by rw [decide_eq_false_iff_not]; omega
  have d3 : decide ((c.size : Int) > 100) = false := by rw [decide_eq_false_iff_not]; omega
  have E0 := Lib.hid hE; have C1 := Lib.hid c1; have C2 := Lib.hid c2; have C3 := Lib.hid c3; have C4 := Lib.hid c4
  clear hE c1 c2 c3 c4
  go_enter Tryd.func6, Tryd.ntmps6
  go_wp2_with fail
  refine (awake_true _ E0.out).mono ?_
  rintro e w0 ⟨rfl, hb⟩
  have B0 := Lib.hid hb
  clear hb
  go_wp2_with fail
  refine (C1.out _ (E0.out.below B0.out)).mono ?_
  rintro e w1 ⟨rfl, hb⟩
  have B1 := Lib.hid (B0.out.trans (hb.mono B0.out.size))
  clear hb
  go_wp2_with fail
  refine (C2.out _ (E0.out.below B1.out)).mono ?_
  rintro e w2 ⟨rfl, hb⟩
  have B2 := Lib.hid (B1.out.trans (hb.mono B1.out.size))
  clear hb
  go_wp2_with fail
  refine (C3.out _ (E0.out.below B2.out)).mono ?_
  rintro e w3 ⟨rfl, hb⟩
  have B3 := Lib.hid (B2.out.trans (hb.mono B2.out.size))
  clear hb
  go_wp2_with fail
  refine (C4.out _ (E0.out.below B3.out)).mono ?_
  rintro e w4 ⟨rfl, hb⟩
  have B4 := Lib.hid (B3.out.trans (hb.mono B3.out.size))
  clear hb
  go_wp2_with fail
  go_ret
  exact ⟨rfl, B4.out⟩

set_option maxRecDepth 100000 in
set_option maxHeartbeats 4000000 in
theorem total_mf (a b c : ByteArray) (u v : Int) (w : World) (hE : Env w) (h1 : a.size ≤ 100) (h2 : b.size ≤ 100) (h3 : c.size ≤ 100) (c1 : CmpAns a b (-1) 0) (c2 : CmpAns b a (1) 0) (c3 : CmpAns b c u 0) (c4 : CmpAns a c v 0)
    (q1 : (a.toList == b.toList) = false) (q2 : decide (u ≤ 0) = true) (q3 : decide (v > 0) = false) (W1 : WithAns c a false) :
    Calls Tryd.prog 6 #[.string a, .string b, .string c] w fun e w' => e = .returned (.bool true) ∧ Below w.heap.size w w' := by
  have d1 : decide ((a.size : Int) > 100) = false := by rw [decide_eq_false_iff_not]; omega
  have d2 : decide ((b.size : Int) > 100) = false := by rw [decide_eq_false_iff_not]; omega
  have d3 : decide ((c.size : Int) > 100) = false := by rw [decide_eq_false_iff_not]; omega
  have E0 := Lib.hid hE; have C1 := Lib.hid c1; have C2 := Lib.hid c2; have C3 := Lib.hid c3; have C4 := Lib.hid c4
  clear hE c1 c2 c3 c4
  have W1 := Lib.hid W1
  go_enter Tryd.func6, Tryd.ntmps6
  go_wp2_with fail
  refine (awake_true _ E0.out).mono ?_
  rintro e w0 ⟨rfl, hb⟩
  have B0 := Lib.hid hb
  clear hb
  go_wp2_with fail
  refine (C1.out _ (E0.out.below B0.out)).mono ?_
  rintro e w1 ⟨rfl, hb⟩
  have B1 := Lib.hid (B0.out.trans (hb.mono B0.out.size))
  clear hb
  go_wp2_with fail
  refine (C2.out _ (E0.out.below B1.out)).mono ?_
  rintro e w2 ⟨rfl, hb⟩
  have B2 := Lib.hid (B1.out.trans (hb.mono B1.out.size))
  clear hb
  go_wp2_with fail
  refine (C3.out _ (E0.out.below B2.out)).mono ?_
  rintro e w3 ⟨rfl, hb⟩
  have B3 := Lib.hid (B2.out.trans (hb.mono B2.out.size))
  clear hb
  go_wp2_with fail
  refine (C4.out _ (E0.out.below B3.out)).mono ?_
  rintro e w4 ⟨rfl, hb⟩
  have B4 := Lib.hid (B3.out.trans (hb.mono B3.out.size))
  clear hb
  go_wp2_with fail
  refine (W1.out _ (E0.out.below B4.out)).mono ?_
  rintro e w5 ⟨rfl, hb⟩
  have B5 := Lib.hid (B4.out.trans (hb.mono B4.out.size))
  clear hb
  go_wp2_with fail
  go_ret
  exact ⟨rfl, B5.out⟩

set_option maxRecDepth 100000 in
set_option maxHeartbeats 4000000 in
theorem total_mt (a b c : ByteArray) (u v : Int) (w : World) (hE : Env w) (h1 : a.size ≤ 100) (h2 : b.size ≤ 100) (h3 : c.size ≤ 100) (c1 : CmpAns a b (-1) 0) (c2 : CmpAns b a (1) 0) (c3 : CmpAns b c u 0) (c4 : CmpAns a c v 0)
    (q1 : (a.toList == b.toList) = false) (q2 : decide (u ≤ 0) = true) (q3 : decide (v > 0) = false) (W1 : WithAns c a true) (W2 : WithAns b a true) :
    Calls Tryd.prog 6 #[.string a, .string b, .string c] w fun e w' => e = .returned (.bool true) ∧ Below w.heap.size w w' := by
  have d1 : decide ((a.size : Int) > 100) = false := by rw [decide_eq_false_iff_not]; omega
  have d2 : decide ((b.size : Int) > 100) = false := by rw [decide_eq_false_iff_not]; omega
  have d3 : decide ((c.size : Int) > 100) = false := by rw [decide_eq_false_iff_not]; omega
  have E0 := Lib.hid hE; have C1 := Lib.hid c1; have C2 := Lib.hid c2; have C3 := Lib.hid c3; have C4 := Lib.hid c4
  clear hE c1 c2 c3 c4
  have W1 := Lib.hid W1
  have W2 := Lib.hid W2
  go_enter Tryd.func6, Tryd.ntmps6
  go_wp2_with fail
  refine (awake_true _ E0.out).mono ?_
  rintro e w0 ⟨rfl, hb⟩
  have B0 := Lib.hid hb
  clear hb
  go_wp2_with fail
  refine (C1.out _ (E0.out.below B0.out)).mono ?_
  rintro e w1 ⟨rfl, hb⟩
  have B1 := Lib.hid (B0.out.trans (hb.mono B0.out.size))
  clear hb
  go_wp2_with fail
  refine (C2.out _ (E0.out.below B1.out)).mono ?_
  rintro e w2 ⟨rfl, hb⟩
  have B2 := Lib.hid (B1.out.trans (hb.mono B1.out.size))
  clear hb
  go_wp2_with fail
  refine (C3.out _ (E0.out.below B2.out)).mono ?_
  rintro e w3 ⟨rfl, hb⟩
  have B3 := Lib.hid (B2.out.trans (hb.mono B2.out.size))
  clear hb
  go_wp2_with fail
  refine (C4.out _ (E0.out.below B3.out)).mono ?_
  rintro e w4 ⟨rfl, hb⟩
  have B4 := Lib.hid (B3.out.trans (hb.mono B3.out.size))
  clear hb
  go_wp2_with fail
  refine (W1.out _ (E0.out.below B4.out)).mono ?_
  rintro e w5 ⟨rfl, hb⟩
  have B5 := Lib.hid (B4.out.trans (hb.mono B4.out.size))
  clear hb
  go_wp2_with fail
  refine (W2.out _ (E0.out.below B5.out)).mono ?_
  rintro e w6 ⟨rfl, hb⟩
  have B6 := Lib.hid (B5.out.trans (hb.mono B5.out.size))
  clear hb
  go_wp2_with fail
  go_ret
  exact ⟨rfl, B6.out⟩

theorem cmp_cases (a b : ByteArray) (h1 : a.size ≤ 100) (h2 : b.size ≤ 100) :
    (∃ xs ys, Is (bs a) xs ∧ Is (bs b) ys ∧ CmpAns a b (cmpL xs ys) 0) ∨ (((∀ xs, ¬ Is (bs a) xs) ∨ (∀ xs, ¬ Is (bs b) xs)) ∧ CmpAns a b 0 3) := by
  by_cases ha : ∀ xs, ¬ Is (bs a) xs
  · exact .inr ⟨.inl ha, fun w hE => Compare_no a b w hE (by omega) (by omega) (.inl ha)⟩
  by_cases hb : ∀ xs, ¬ Is (bs b) xs
  · exact .inr ⟨.inr hb, fun w hE => Compare_no a b w hE (by omega) (by omega) (.inr hb)⟩
  obtain ⟨xs, hx⟩ := Classical.not_forall_not.1 ha
  obtain ⟨ys, hy⟩ := Classical.not_forall_not.1 hb
  exact .inl ⟨xs, ys, hx, hy, fun w hE => Compare_ok a b xs ys w hE hx hy⟩
theorem CmpAns.some {a b : ByteArray} (h1 : a.size ≤ 100) (h2 : b.size ≤ 100) : ∃ x e, CmpAns a b x e := by
  rcases cmp_cases a b h1 h2 with ⟨_, _, _, _, h⟩ | ⟨_, h⟩
  · exact ⟨_, _, h⟩
  · exact ⟨_, _, h⟩

theorem total_law (a b c : ByteArray) (w : World) (hE : Env w) (z1 : a.size ≤ maxLen) (z2 : b.size ≤ maxLen) (z3 : c.size ≤ maxLen) :
    Calls Tryd.prog 6 #[.string a, .string b, .string c] w fun e w' => e = .returned (.bool true) ∧ Below w.heap.size w w' := by
  by_cases h : 100 < a.size ∨ 100 < b.size ∨ 100 < c.size
  · exact total_big a b c w hE h z1 z2 z3
  have h1 : a.size ≤ 100 := by omega
  have h2 : b.size ≤ 100 := by omega
  have h3 : c.size ≤ 100 := by omega
  obtain ⟨y, f, cy⟩ := CmpAns.some h2 h1
  obtain ⟨v, g, cv⟩ := CmpAns.some h1 h3
  rcases cmp_cases a b h1 h2 with ⟨xs, ys, ia, ib, cx⟩ | ⟨_, cx⟩
  · rcases cmp_cases b c h2 h3 with ⟨ys', zs, ib', ic, cu⟩ | ⟨_, cu⟩
    · obtain rfl := ib.unique ib'
      have cy : CmpAns b a (cmpL ys xs) 0 := fun w hE => Compare_ok b a ys xs w hE ib ia
      have cv : CmpAns a c (cmpL xs zs) 0 := fun w hE => Compare_ok a c xs zs w hE ia ic
      have w1 : WithAns c a (xs.isPrefixOf zs) := fun w hE => Within_ok c a zs xs w hE ic ia
      have w2 : WithAns b a (xs.isPrefixOf ys) := fun w hE => Within_ok b a ys xs w hE ib ia
      rw [cmpL_neg] at cy
      have ht := cmpL_trans xs ys zs
      have hbt := cmpL_between xs ys zs
      have hu := cmpL_range ys zs
      have hz := cmpL_zero xs ys
      generalize hX : cmpL xs ys = x at *
      generalize cmpL ys zs = u at *
      generalize cmpL xs zs = v at *
      have hne : x ≠ 0 → (a.toList == b.toList) = false := by
        intro hx0
        rw [beq_eq_false_iff_ne]
        intro hab
        have : a = b := by
          have := congrArg List.toArray hab
          rw [tl, tl] at hab
          rw [← mk_bs a, ← mk_bs b, hab]
        subst this
        exact hx0 (hz.2 (ia.unique ib))
      have hfin : ∀ x0 : Int, x = x0 → (x0 ≤ 0) → u ≤ 0 → xs.isPrefixOf zs = true → WithAns b a true := by
        intro x0 hx hx0 hu0 hp
        have : xs <+: ys := hbt (by omega) hu0 (List.isPrefixOf_iff_prefix.1 hp)
        rw [List.isPrefixOf_iff_prefix.2 this] at w2
        exact w2
      rcases (show x = 1 ∨ x = 0 ∨ x = -1 by have := cmpL_range xs ys; omega) with rfl | rfl | rfl
      · exact total_g a b c u v w hE h1 h2 h3 cx cy cu cv (hne (by omega))
      · have q1 : (a.toList == b.toList) = true := by
          obtain rfl := hz.1 rfl
          rw [tl, tl, beq_iff_eq]
          exact ia.inj ib
        by_cases hu0 : u ≤ 0
        · have q2 : decide (u ≤ 0) = true := by rw [decide_eq_true_iff]; omega
          have q3 : decide (v > 0) = false := by rw [decide_eq_false_iff_not]; have := ht (by omega) hu0; omega
          cases hp : xs.isPrefixOf zs
          · rw [hp] at w1
            exact total_zf a b c u v w hE h1 h2 h3 cx cy cu cv q1 q2 q3 w1
          · rw [hp] at w1
            exact total_zt a b c u v w hE h1 h2 h3 cx cy cu cv q1 q2 q3 w1 (hfin _ rfl (by omega) hu0 hp)
        · exact total_z1 a b c u v w hE h1 h2 h3 cx cy cu cv q1 (by rw [decide_eq_false_iff_not]; omega)
      · have q1 := hne (by omega)
        by_cases hu0 : u ≤ 0
        · have q2 : decide (u ≤ 0) = true := by rw [decide_eq_true_iff]; omega
          have q3 : decide (v > 0) = false := by rw [decide_eq_false_iff_not]; have := ht (by omega) hu0; omega
          cases hp : xs.isPrefixOf zs
          · rw [hp] at w1
            exact total_mf a b c u v w hE h1 h2 h3 cx cy cu cv q1 q2 q3 w1
          · rw [hp] at w1
            exact total_mt a b c u v w hE h1 h2 h3 cx cy cu cv q1 q2 q3 w1 (hfin _ rfl (by omega) hu0 hp)
        · exact total_m1 a b c u v w hE h1 h2 h3 cx cy cu cv q1 (by rw [decide_eq_false_iff_not]; omega)
    · exact total_ne a b c _ y v f g w hE h1 h2 h3 cx cy cu cv
  · rcases cmp_cases b c h2 h3 with ⟨ys', zs, ib', ic, cu⟩ | ⟨_, cu⟩
    · exact total_en a b c y _ v f g w hE h1 h2 h3 cx cy cu cv
    · exact total_nn a b c y v f g w hE h1 h2 h3 cx cy cu cv


set_option maxRecDepth 100000 in
theorem total_lifted (os : Os) (started : os.Started) (H : Type) (enc : TypeId × Value → H) :
    ReturnsInHanded {} Tryd.checked os 6 .any (fun w args => (Rows.codeTotalSpec.pre enc Tryd.prog Tryd.f6 [] false w args ∧ laidMetH Tryd.prog laid7 w) ∧ sizedMet enc Tryd.prog Tryd.f6 (OpenSpec.ofChange Rows.codeTotalSpec) false w args)
      (Rows.codeTotalSpec.post enc Tryd.prog Tryd.f6 false true false false) := by
  refine wrap (s := Rows.codeTotalSpec) started (by kernel_rfl) Tryd.func6
    (ChangeSpec.witness_shaped (enc := enc) (C := Tryd.checked) (os := os) (X := fun w _ => laidMetH Tryd.prog laid7 w) false (World.laidAll Tryd.prog os laid7) #[.string ⟨#[]⟩, .string ⟨#[]⟩, .string ⟨#[]⟩] 8 (World.laidAll_os _ _ _)
      (World.shaped_of_ZipB (by kernel_rfl) (by kernel_rfl)) (by kernel_rfl) (by kernel_rfl) (by kernel_rfl) (laid_met os _)) ?_
  intro W base args ds gs before hval0 hW hE
  have hval : ∀ (j : Nat) t v, Tryd.f6.params[j]? = some t → args[j]? = some v → Value.okWide Tryd.prog W .any base t v := hval0
  have hW' := hW
  obtain ⟨p, q, hA0, hV, rfl, hfz, hnd⟩ := hW
  have hA : DataW.TrodAll enc Tryd.prog W 0 (fun _ => true) true Tryd.f6.params.toList args.toList ds p := hA0
  rw [Tryd.params6] at hA hval
  obtain ⟨v0, v1, v2, d0, d1, d2, p0, p1, p2, rfl, rfl, rfl, h0, h1, h2⟩ := trodAll_three hA
  obtain ⟨rfl, rfl⟩ := trodVars_none hV
  obtain ⟨s0, rfl, rfl, rfl, z0⟩ := Go.ChangeMaps.open_string Tryd.underlying9 (hval 0 9 v0 rfl rfl) h0
  obtain ⟨s1, rfl, rfl, rfl, z1⟩ := Go.ChangeMaps.open_string Tryd.underlying9 (hval 1 9 v1 rfl rfl) h1
  obtain ⟨s2, rfl, rfl, rfl, z2⟩ := Go.ChangeMaps.open_string Tryd.underlying9 (hval 2 9 v2 rfl rfl) h2
  refine (total_law s0 s1 s2 W hE z0 z1 z2).mono fun e W' ⟨he, hb⟩ => ?_
  subst he
  exact ⟨_, rfl, post_true rfl rfl (by kernel_rfl) hW' rfl hb⟩

theorem total_said : Rows.CodeTotalSaid :=
  OpenClaim.holds_of_wide 6 Tryd.f6 rfl rfl rfl rfl rfl rfl rfl ⟨rfl, rfl, rfl, rfl, rfl⟩ rfl rfl rfl rfl rfl (by kernel_rfl) Tryd.func6 (by kernel_rfl)
    (of_decide_eq_true (by kernel_rfl)) (by unfold Func.isWrapper; first | (rw [if_pos (by decide +kernel)]; kernel_rfl) | (rw [if_neg (by decide +kernel)]; exact ⟨rfl, rfl⟩))
    (fun os started H enc _ => total_lifted os started H enc)

theorem total_holds : Rows.CodeTotalCardSaid :=
  Claim7.holds_tied_plain_at .later [] [.data, .data, .data, .data, .sentinel, .sentinel, .pinned] true (true, "5585ac0de1e38fc76c382604bd46716503cfda96d5a3b4437f73ea2738781a5e") true
    total_said (fun _ h => by cases h) (by kernel_rfl) (fun _ h => by cases h) codeTotal_row_tie rfl ⟨rfl, rfl⟩ (by kernel_rfl) rfl
    (fun f fn hf hfn => by
      obtain rfl : f = 6 := Option.some.inj ((show Tryd.prog.funcNamed "archivum/archivumlaw05.CodeTotal" = some 6 by kernel_rfl).symm.trans hf) |>.symm
      obtain rfl : fn = Tryd.f6 := (Option.some.inj (Tryd.func6.symm.trans hfn)).symm
      exact ⟨by kernel_rfl, fun j t ht => by
        rw [Tryd.params6] at ht
        have hm : t ∈ [9, 9, 9] := by simpa using Array.mem_of_getElem? ht
        have hall : ([9, 9, 9].all fun u => !Tryd.prog.wantsStandIn u) = true := by kernel_rfl
        exact (show Tryd.prog.wantsStandIn t = false by simpa using List.all_eq_true.1 hall t hm)⟩)
    (by kernel_rfl)
#print axioms total_holds
end Go.Proofs.YtbpoggdinefkeaaDoor
