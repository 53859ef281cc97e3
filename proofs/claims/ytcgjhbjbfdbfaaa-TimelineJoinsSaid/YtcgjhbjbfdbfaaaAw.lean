/-
  The example that every law of the seat checks first; At at any list. No statement of the seat is proved here.
-/
import Derived.Test.YtcgjhbjbfdbfaaaSe
namespace Go.Proofs.Ytcgjhbjbfdbfaaa
open Go.RowKit

theorem checks_ok (p : Option Addr) (n cap : Nat) (F U V : Nat → Int) (hn : (n : Int) ≤ 1024) (h : Tl n F U V) : ChecksTo 16 p n cap F U V 0 := by
  obtain ⟨E, h1, _, h3⟩ := check_both p n cap F U V
  obtain rfl : E = 0 := h3.2 (ordP_iff.2 ⟨hn, h⟩)
  exact h1
theorem At_any (p : Option Addr) (n cap : Nat) (F U V : Nat → Int) (d : Int) (w : World) (hP : PcsAt w p n F U V) (hn : (n : Int) ≤ 1099511627776) (hW : Wk n F U) :
    Calls Try.prog 12 #[.slice p n cap, .int .i64 d] w fun e w' => ∃ A O, e = .returned (.tuple #[.int .i64 A, .bool O]) ∧ Below w.heap.size w w' ∧ ((O = true ∧ Has n F U V d A) ∨ (O = false ∧ A = 0 ∧ ∀ x, ¬ Has n F U V d x)) := by
  rcases has_first (V := V) hW d with ⟨m, m1, m2, m3, m4⟩ | ⟨m2, m4⟩
  · refine (At_loop p n cap m F U V d w hP hn (by omega) m2 (V m) true (Or.inr ⟨m1, m3, rfl, rfl⟩)).mono ?_
    rintro e w' ⟨rfl, h⟩
    exact ⟨V m, true, rfl, h, Or.inl ⟨rfl, (m4 _).2 rfl⟩⟩
  · refine (At_loop p n cap n F U V d w hP hn (Nat.le_refl _) m2 0 false (Or.inl ⟨rfl, rfl, rfl⟩)).mono ?_
    rintro e w' ⟨rfl, h⟩
    exact ⟨0, false, rfl, h, Or.inr ⟨rfl, rfl, m4⟩⟩

theorem Pc.pcs1 {w : World} {b : Nat} {f u v : Int} (h : Pc w b 0 f u v) : PcsAt w (some ⟨b, 0, none⟩) 1 (fun _ => f) (fun _ => u) (fun _ => v) :=
  Or.inr ⟨b, 0, rfl, fun i hi => by
    obtain rfl : i = 0 := by omega
    exact h⟩

set_option maxRecDepth 100000 in
set_option maxHeartbeats 8000000 in
theorem awake_true (w : World) : Calls Try.prog 10 #[] w fun e w' => e = .returned (.bool true) ∧ Below w.heap.size w w' := by
  have T1 : Hid (Tl 1 (fun _ => 10) (fun _ => 20) (fun _ => 1)) := Tl.one (by decide)
  have P0 := Lib.hid (Pc.new w 10 20 1 47)
  have B0 : Hid (Below w.heap.size w (w.alloc (.cells #[.int .i64 10, .int .i64 20, .int .i64 1] 47))) := (Below.refl _ _).alloc (Nat.le_refl _) _
  go_enter Try.func10, Try.ntmps10
  go_wp2_with fail
  refine (Set_ok _ 1 1 _ _ _ 15 25 2 _ P0.out.pcs1 (by omega) T1.out (by decide) (checks_ok _ _ _ _ _ _ (by omega) T1.out)).mono ?_
  rintro e w1 ⟨p2, n2, cap2, F2, U2, V2, rfl, hL, hB, hS⟩
  obtain ⟨rfl, e1, e2, e3⟩ := aw_set ⟨rfl, rfl, rfl⟩ hS
  have P1 := Lib.hid (P0.out.next hB)
  have L1 := Lib.hid hL
  have B1 := Lib.hid (B0.out.trans (hB.mono B0.out.size))
  clear hL hB hS
  go_wp2_with fail
  refine (Clear_ok _ 1 1 _ _ _ 12 14 _ P1.out.pcs1 (by omega) T1.out (by decide) (checks_ok _ _ _ _ _ _ (by omega) T1.out)).mono ?_
  rintro e w2 ⟨p3, n3, cap3, F3, U3, V3, rfl, hL, hB, hS⟩
  obtain ⟨rfl, e4⟩ := aw_clear ⟨rfl, rfl, rfl⟩ hS
  have P2 := Lib.hid (P1.out.next hB)
  have L2 := Lib.hid (L1.out.next hB)
  have M2 := Lib.hid hL
  have B2 := Lib.hid (B1.out.trans (hB.mono B1.out.size))
  clear hL hB hS L1 P1
  go_wp2_with fail
  refine (At_any _ 1 1 _ _ _ 19 _ P2.out.pcs1 (by omega) T1.out.1).mono ?_
  rintro e w3 ⟨A, O, rfl, hB, hA⟩
  obtain ⟨rfl, rfl⟩ : O = true ∧ A = 1 := by
    rcases hA with ⟨h1, h2⟩ | ⟨_, _, h2⟩
    · exact ⟨h1, (Has.one.1 h2).2.2.symm⟩
    · exact absurd (Has.one.2 ⟨by omega, by omega, rfl⟩) (h2 1)
  have P3 := Lib.hid (P2.out.next hB)
  have L3 := Lib.hid (L2.out.next hB)
  have M3 := Lib.hid (M2.out.next hB)
  have B3 := Lib.hid (B2.out.trans (hB.mono B2.out.size))
  clear hB hA P2 L2 M2
  obtain ⟨b4, o4, rfl, hp4⟩ := L3.out.pcs.get (k := 1) (by omega)
  obtain ⟨b5, o5, rfl, hp5⟩ := M3.out.pcs.get (k := 1) (by omega)
  rw [e1, e2, e3] at hp4
  rw [e4] at hp5
  have q0 := hp4.1; have q1 := hp4.2.1; have q2 := hp4.2.2; have r0 := hp5.1
  have z4 := hp4.lt; have z5 := hp5.lt
  have DY : Hid (∀ w', PcsAt w' (some ⟨w.heap.size, 0, none⟩) 1 (fun _ => 10) (fun _ => 20) (fun _ => 1) → Calls Try.prog 18 #[.slice (some ⟨w.heap.size, 0, none⟩) 1 1, .int .i64 1] w' fun e w'' => e = .returned (.int .i64 10) ∧ Below w'.heap.size w' w'') := fun w' h =>
    Days_loop _ 1 1 _ _ _ 1 w' h (ordP_iff.2 ⟨by omega, T1.out⟩) (checks_ok _ _ _ _ _ _ (by omega) T1.out)
  clear hp4 hp5 e1 e2 e3 e4
  go_wp2_with fail
  refine (DY.out _ P3.out.pcs1).mono ?_
  rintro e w4 ⟨rfl, hB⟩
  have B4 := Lib.hid (B3.out.trans (hB.mono B3.out.size))
  clear hB q0 q1 q2 r0
  go_wp2_with fail
  go_ret
  exact ⟨rfl, B4.out⟩

end Go.Proofs.Ytcgjhbjbfdbfaaa
