/-
  What Set and Clear answer where the timeline and the span are valid. No statement of the seat is proved here.
-/
import Derived.Test.YtcgjhbjbfdbfaaaJn
namespace Go.Proofs.Ytcgjhbjbfdbfaaa
open Go.RowKit

theorem Row.ls {B : Nat} {w : World} {b n cap : Nat} {F U V : Nat → Int} (h : Row B w b n cap F U V) : LsAt B w (some ⟨b, 0, none⟩) n cap F U V := by
  obtain ⟨N, vs, h1, h2, h3, h4, h5⟩ := h
  exact Or.inr ⟨b, N, vs, rfl, h1, h2, h3, h4, h5⟩

set_option maxRecDepth 100000 in
set_option maxHeartbeats 2000000 in
theorem Clear_ok (p : Option Addr) (n cap : Nat) (F U V : Nat → Int) (a b : Int) (w : World) (hP : PcsAt w p n F U V) (hn : (n : Int) ≤ 1000) (hT : Tl n F U V) (hs : spn a b) (C : ChecksTo 16 p n cap F U V 0) :
    Calls Try.prog 22 #[.slice p n cap, .agg #[.int .i64 a, .int .i64 b]] w fun e w' => ∃ p2 n2 cap2 F2 U2 V2, e = .returned (.tuple #[.slice p2 n2 cap2, .int .i64 0]) ∧ LsAt w.heap.size w' p2 n2 cap2 F2 U2 V2 ∧ Below w.heap.size w w' ∧ ClearOf n F U V a b n2 F2 U2 V2 := by
  have D := Lib.hid (without_ok p n cap F U V a b _ (hP.below ((Below.refl _ _).alloc (Nat.le_refl _) (.cells #[.int .i64 a, .int .i64 b] 33))) hn hT hs C)
  clear hP C hT hs
  go_enter Try.func22, Try.ntmps22
  go_wp2_with fail
  refine D.out.mono ?_
  rintro e w2 ⟨b2, n2, cap2, F2, U2, V2, i0, rfl, hR, hB, hn2, hG⟩
  have R2 : Hid (Row w.heap.size w2 b2 n2 cap2 F2 U2 V2) := hR.mono (by simp)
  have B2 : Hid (Below w.heap.size w w2) := ((Below.refl w.heap.size w).alloc (Nat.le_refl _) _).trans (hB.mono (by simp))
  have G2 := Lib.hid hG
  clear hR hB hG D
  go_wp2_with fail
  refine (limited_any _ n2 cap2 _).mono ?_
  rintro e w3 ⟨he, _, hb3⟩
  obtain rfl := he (by omega)
  clear he
  go_wp2_with fail
  go_ret2
  exact ⟨_, n2, cap2, F2, U2, V2, rfl, (R2.out.next hb3).ls, B2.out.trans (hb3.mono B2.out.size), G2.out.1, hn2, G2.out.2.1⟩

set_option maxRecDepth 100000 in
set_option maxHeartbeats 4000000 in
theorem Set_ok (p : Option Addr) (n cap : Nat) (F U V : Nat → Int) (a b v : Int) (w : World) (hP : PcsAt w p n F U V) (hn : (n : Int) ≤ 1000) (hT : Tl n F U V) (hs : spn a b) (C : ChecksTo 16 p n cap F U V 0) :
    Calls Try.prog 20 #[.slice p n cap, .agg #[.int .i64 a, .int .i64 b], .int .i64 v] w fun e w' => ∃ p2 n2 cap2 F2 U2 V2, e = .returned (.tuple #[.slice p2 n2 cap2, .int .i64 0]) ∧ LsAt w.heap.size w' p2 n2 cap2 F2 U2 V2 ∧ Below w.heap.size w w' ∧ SetOf n F U V a b v n2 F2 U2 V2 := by
  have D := Lib.hid (without_ok p n cap F U V a b _ (hP.below ((Below.refl _ _).alloc (Nat.le_refl _) (.cells #[.int .i64 a, .int .i64 b] 33))) hn hT hs C)
  have HS := Lib.hid hs
  clear hP C hT hs
  go_enter Try.func20, Try.ntmps20
  go_wp2_with fail
  refine D.out.mono ?_
  rintro e w2 ⟨b2, n2, cap2, F2, U2, V2, i0, rfl, hR, hB, hn2, hG⟩
  have R2 : Hid (Row w.heap.size w2 b2 n2 cap2 F2 U2 V2) := hR.mono (by simp)
  have B2 : Hid (Below w.heap.size w w2) := ((Below.refl w.heap.size w).alloc (Nat.le_refl _) _).trans (hB.mono (by simp))
  have S2 : Hid (SpanAt w2 w.heap.size a b) := SpanAt.below (⟨World.cell?_alloc_new w _ 33 0, World.cell?_alloc_new w _ 33 1⟩ : SpanAt (w.alloc (.cells #[.int .i64 a, .int .i64 b] 33)) w.heap.size a b) hB (by simp)
  have G2 := Lib.hid hG
  have hi0 := hG.2.2.1
  clear hR hB hG D
  have hab := HS.out.2.1
  go_wp2_with fail
  go_loopw [10] (fun i wr => ∃ k : Nat, k ≤ i0 ∧ i = .int .i64 k ∧ Row w.heap.size wr b2 n2 cap2 F2 U2 V2 ∧ SpanAt wr w.heap.size a b ∧ Below w.heap.size w wr) (fun i _ => n2 - (intOf i).toNat)
  case atStart => exact ⟨0, Nat.zero_le _, rfl, R2.out, S2.out, B2.out⟩
  case round =>
    obtain ⟨k, hk, rfl, hR, hS, hB⟩ := hrel
    have NR := Lib.hid hR; have NS := Lib.hid hS; have NB := Lib.hid hB
    have s0 := NS.out.1
    have s1 := NS.out.2
    have zs := NS.out.lt
    have zb := NR.out.lt.1
    have hbg := NR.out.lt.2
    clear hR hS hB
    obtain ⟨N, vs, q1, q2, q3, q4, q5⟩ := NR.out
    have Q1 := Lib.hid q1; have Q4 := Lib.hid q4
    clear q1 q4
    by_cases hkn : k < n2
    · have q1 := Q1.out; have q4 := Q4.out
      have PW := Lib.hid (q1.pc (o := k * 3) (by omega) (q4 k hkn))
      have p0 := PW.out.1
      clear q1 q4
      have hkd : decide ((k : Int) < (n2 : Int)) = true := by simp; omega
      have hkz : (k : Int) < (n2 : Int) := by omega
      rcases (show k < i0 ∨ k = i0 by omega) with g | g
      · have hd : decide (F2 k < a) = true := decide_eq_true (G2.out.2.2.2.1 k g).1
        go_wp2_with fail
        go_quiet (fail)
        go_wp2_with fail
        go_roundw
        case rel => exact ⟨k + 1, by omega, by go_num, NR.out, NS.out, below_drewN NB.out nq⟩
        case measure => simp [intOf]; omega
      · subst g
        have hd : decide (F2 k < a) = false := decide_eq_false (by have := G2.out.2.2.2.2 k (Nat.le_refl _) hkn; omega)
        go_wp2_with fail
        go_quiet (fail)
        go_wp2_with fail
        refine (Insert_any b2 N n2 cap2 wr.heap.size k F2 U2 V2 a b v vs _ ((show HoldsN N (wr.drewN nq) b2 vs from Q1.out).alloc _) q2 q3 Q4.out (by omega) hi0 (heap_alloc_new (wr.drewN nq) _) (by omega)).mono ?_
        rintro e w5 ⟨b5, N5, cap5, vs5, rfl, h1, h2, h3, h4, h5, h6⟩
        have W5 := Lib.hid (ins_all (v := v) (V := V2) G2.out.1.1 HS.out hi0 (fun i hi => (G2.out.2.2.2.1 i hi).2) G2.out.2.2.2.2)
        have P5 := Lib.hid (h1.pcs (by omega) h4)
        have B5 : Hid (Below w.heap.size w w5) := ((below_drewN NB.out nq).alloc (show w.heap.size ≤ wr.heap.size from Nat.le_of_lt zs) _).trans (h6.mono hbg)
        clear h1 h4 h6 s0 s1
        go_wp2_with fail
        refine (join_loop (some ⟨b5, 0, none⟩) (n2 + 1) cap5 (ins F2 k a) (ins U2 k b) (ins V2 k v) _ P5.out (by omega) W5.out.1).mono ?_
        rintro e w6 ⟨_, rfl, ⟨p3, n3, cap3, F3, U3, V3, rfl, hL3, hT3, hn3, hH3, _⟩, hB6⟩
        have L6 := Lib.hid hL3; have T6 := Lib.hid hT3; have H6 := Lib.hid hH3; have B6 := Lib.hid (B5.out.trans (hB6.mono B5.out.size))
        have z5 := B5.out.size
        clear hL3 hT3 hH3 hB6
        go_wp2_with fail
        refine (limited_any p3 n3 cap3 _).mono ?_
        rintro e w7 ⟨he, _, hb7⟩
        obtain rfl := he (by omega)
        clear he
        go_wp2_with fail
        go_ret2
        refine ⟨p3, n3, cap3, F3, U3, V3, rfl, (L6.out.next hb7).mono z5, B6.out.trans (hb7.mono B6.out.size), T6.out, by omega, fun d x => ?_⟩
        rw [H6.out, W5.out.2, G2.out.2.1]
    · obtain rfl : k = i0 := by omega
      have hkd : decide ((k : Int) < (n2 : Int)) = false := by simp; omega
      go_wp2_with fail
      go_quiet (fail)
      go_wp2_with fail
      refine (Insert_any b2 N n2 cap2 wr.heap.size k F2 U2 V2 a b v vs _ ((show HoldsN N (wr.drewN nq) b2 vs from Q1.out).alloc _) q2 q3 Q4.out (by omega) hi0 (heap_alloc_new (wr.drewN nq) _) (by omega)).mono ?_
      rintro e w5 ⟨b5, N5, cap5, vs5, rfl, h1, h2, h3, h4, h5, h6⟩
      have W5 := Lib.hid (ins_all (v := v) (V := V2) G2.out.1.1 HS.out hi0 (fun i hi => (G2.out.2.2.2.1 i hi).2) G2.out.2.2.2.2)
      have P5 := Lib.hid (h1.pcs (by omega) h4)
      have B5 : Hid (Below w.heap.size w w5) := ((below_drewN NB.out nq).alloc (show w.heap.size ≤ wr.heap.size from Nat.le_of_lt zs) _).trans (h6.mono hbg)
      clear h1 h4 h6 s0 s1
      go_wp2_with fail
      refine (join_loop (some ⟨b5, 0, none⟩) (n2 + 1) cap5 (ins F2 k a) (ins U2 k b) (ins V2 k v) _ P5.out (by omega) W5.out.1).mono ?_
      rintro e w6 ⟨_, rfl, ⟨p3, n3, cap3, F3, U3, V3, rfl, hL3, hT3, hn3, hH3, _⟩, hB6⟩
      have L6 := Lib.hid hL3; have T6 := Lib.hid hT3; have H6 := Lib.hid hH3; have B6 := Lib.hid (B5.out.trans (hB6.mono B5.out.size))
      have z5 := B5.out.size
      clear hL3 hT3 hH3 hB6
      go_wp2_with fail
      refine (limited_any p3 n3 cap3 _).mono ?_
      rintro e w7 ⟨he, _, hb7⟩
      obtain rfl := he (by omega)
      clear he
      go_wp2_with fail
      go_ret2
      refine ⟨p3, n3, cap3, F3, U3, V3, rfl, (L6.out.next hb7).mono z5, B6.out.trans (hb7.mono B6.out.size), T6.out, by omega, fun d x => ?_⟩
      rw [H6.out, W5.out.2, G2.out.2.1]

end Go.Proofs.Ytcgjhbjbfdbfaaa
