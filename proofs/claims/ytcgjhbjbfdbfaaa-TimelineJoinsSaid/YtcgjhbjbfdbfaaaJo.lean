/-
  PROVED HERE: the law archivumlaw04.TimelineJoins answers true for every two lists of pieces: Changes and Over answer what the reference answers, or its errors. No condition. Every input is spoken of.
-/
import Derived.Test.YtcgjhbjbfdbfaaaRf
import Derived.Test.YtcgjhbjbfdbfaaaOv
import Derived.Test.YtcgjhbjbfdbfaaaDs
import Derived.Test.YtcgjhbjbfdbfaaaSt
namespace Go.Proofs.Ytcgjhbjbfdbfaaa
open Go.ChangeShapes Go.WideShapes Go.ChangeAt Go.RowKit Go.Joins

theorem loop_has {n m L n3 : Nat} {F U V G H I T F3 U3 V3 : Nat → Int} {va vb : Int → Int} {oa ob : Int → Bool} (hBo : BoundsOf n F U m G H L T) (hT : Tl n F U V) (hT2 : Tl m G H I) (ha : ∀ d, AtRes n F U V d (va d) (oa d)) (hb : ∀ d, AtRes m G H I d (vb d) (ob d)) (hT3 : Tl n3 F3 U3 V3)
    (hH3 : ∀ d x, Has n3 F3 U3 V3 d x ↔ ∃ j, j < L - 1 ∧ Dif va vb oa ob (T j) ∧ (T j ≤ d ∧ d < T (j + 1)) ∧ 0 = x) (d x : Int) : Has n3 F3 U3 V3 d x ↔ (0 ≤ d ∧ d < 1048576) ∧ fDif va vb oa ob d x := by
  have const : ∀ j d, j + 1 < L → T j ≤ d → d < T (j + 1) → (va d = va (T j) ∧ oa d = oa (T j)) ∧ vb d = vb (T j) ∧ ob d = ob (T j) := fun j d h1 h2 h3 =>
    ⟨AtRes.iff hT.1 (ha (T j)) (ha d) (fun x => part_const hBo h1 h2 h3 x), AtRes.iff hT2.1 (hb (T j)) (hb d) (fun x => part_const (bounds_swap hBo) h1 h2 h3 x)⟩
  constructor
  · intro g
    refine ⟨g.range hT3.1, ?_⟩
    obtain ⟨j, j1, j2, j3, j4⟩ := (hH3 d x).1 g
    obtain ⟨⟨c1, c2⟩, c3, c4⟩ := const j d (by omega) j3.1 j3.2
    refine ⟨?_, j4⟩
    show ¬ (va d = vb d ∧ oa d = ob d)
    rw [c1, c2, c3, c4]
    exact j2
  · rintro ⟨_, hd, h0⟩
    have hd : ¬ (va d = vb d ∧ oa d = ob d) := hd
    have hx : ∃ j, j + 1 < L ∧ T j ≤ d ∧ d < T (j + 1) := by
      rcases ha d with ⟨_, h⟩ | ⟨h1, h2, _⟩
      · exact part_of hBo h
      · rcases hb d with ⟨_, h⟩ | ⟨h3, h4, _⟩
        · exact part_of (bounds_swap hBo) h
        · exact (hd ⟨by rw [h2, h4], by rw [h1, h3]⟩).elim
    obtain ⟨j, j1, j2, j3⟩ := hx
    obtain ⟨⟨c1, c2⟩, c3, c4⟩ := const j d j1 j2 j3
    exact (hH3 d x).2 ⟨j, by omega, fun h => hd (by rw [c1, c2, c3, c4]; exact h), ⟨j2, j3⟩, h0⟩

theorem SpansIn.congr {w : World} {p : Option Addr} {n : Nat} {F U F' U' : Nat → Int} (h : SpansIn w p n F U) (he : ∀ i, i < n → F' i = F i ∧ U' i = U i) : SpansIn w p n F' U' := by
  rcases h with h | ⟨g, hp, h⟩
  · exact Or.inl h
  · refine Or.inr ⟨g, hp, fun i hi => ?_⟩
    rw [(he i hi).1, (he i hi).2]
    exact h i hi

set_option maxRecDepth 100000 in
set_option maxHeartbeats 4000000 in
theorem SameSpans_eq (p q : Option Addr) (n cap cap' : Nat) (F U F' U' : Nat → Int) (w : World) (hP : SpansIn w p n F U) (hQ : SpansIn w q n F' U') (hn : (n : Int) ≤ 2000) (he : ∀ i, i < n → F i = F' i ∧ U i = U' i) :
    Calls Try.prog 29 #[.slice p n cap, .slice q n cap'] w fun e w' => e = .returned (.bool true) ∧ Below w.heap.size w w' := by
  have HP := Lib.hid hP; have HQ := Lib.hid (hQ.congr he)
  clear hP hQ he
  go_enter Try.func29, Try.ntmps29
  go_wp2
  go_loopw [5] (fun i wr => ∃ k : Nat, k ≤ n ∧ i = .int .i64 k ∧ Below w.heap.size w wr) (fun i _ => n - (intOf i).toNat)
  case atStart => exact ⟨0, Nat.zero_le _, rfl, by go_grown⟩
  case round =>
    obtain ⟨k, hk, rfl, hb⟩ := hrel
    have NB := Lib.hid hb
    have SP := Lib.hid (HP.out.next hb); have SQ := Lib.hid (HQ.out.next hb)
    by_cases hkn : k < n
    · obtain ⟨g, rfl, hc⟩ : ∃ g, p = some ⟨g, 0, none⟩ ∧ ∀ i, i < n → wr.cell? ⟨g, i * 2, none⟩ = some (.int .i64 (F i)) ∧ wr.cell? ⟨g, i * 2 + 1, none⟩ = some (.int .i64 (U i)) := by
        rcases SP.out with h | h
        · omega
        · exact h
      obtain ⟨g2, rfl, hc2⟩ : ∃ g, q = some ⟨g, 0, none⟩ ∧ ∀ i, i < n → wr.cell? ⟨g, i * 2, none⟩ = some (.int .i64 (F i)) ∧ wr.cell? ⟨g, i * 2 + 1, none⟩ = some (.int .i64 (U i)) := by
        rcases SQ.out with h | h
        · omega
        · exact h
      have q0 := (hc k hkn).1; have q1 := (hc k hkn).2
      have r0 := (hc2 k hkn).1; have r1 := (hc2 k hkn).2
      have zb := World.block_lt_of_cell? wr _ q0
      have zb2 := World.block_lt_of_cell? wr _ r0
      have hkd : decide ((k : Int) < (n : Int)) = true := by simp; omega
      have hkz : (k : Int) < (n : Int) := by omega
      clear hb hc hc2
      go_wp2_with fail
      go_quiet (fail)
      go_wp2_with fail
      go_roundw
      case rel => exact ⟨k + 1, by omega, by go_num, below_drewN NB.out nq⟩
      case measure => simp [intOf]; omega
    · have hkd : decide ((k : Int) < (n : Int)) = false := by simp; omega
      clear hb
      go_wp2
      go_ret
      exact ⟨rfl, NB.out⟩

set_option maxRecDepth 100000 in
set_option maxHeartbeats 4000000 in
theorem refChanges_bad (p : Option Addr) (n cap : Nat) (F U V : Nat → Int) (q : Option Addr) (m capq : Nat) (G H I : Nat → Int) (E1 E2 X : Int) (w : World) (hP : PcsAt w p n F U V) (hQ : PcsAt w q m G H I) (C1 : ChecksTo 17 p n cap F U V E1) (C2 : ChecksTo 17 q m capq G H I E2) (hX : (E1 ≠ 0 ∧ X = E1) ∨ (E1 = 0 ∧ E2 ≠ 0 ∧ X = E2)) :
    Calls Try.prog 26 #[.slice p n cap, .slice q m capq] w fun e w' => e = .returned (.tuple #[.slice none 0 0, .int .i64 X]) ∧ Below w.heap.size w w' := by
  have HP := Lib.hid hP; have HQ := Lib.hid hQ; have D1 := Lib.hid C1; have D2 := Lib.hid C2
  clear hP hQ C1 C2
  rcases hX with ⟨h, rfl⟩ | ⟨rfl, h, rfl⟩
  · have hx : (X != 0) = true := by simpa using h
    have hx2 : (X == 0) = false := by simpa using h
    clear h
    go_enter Try.func26, Try.ntmps26
    go_wp2_with fail
    refine (D1.out _ HP.out).mono ?_
    rintro e w1 ⟨rfl, hb⟩
    go_wp2_with fail
    go_ret2
    exact ⟨rfl, hb⟩
  · have hx : (X != 0) = true := by simpa using h
    have hx2 : (X == 0) = false := by simpa using h
    clear h
    go_enter Try.func26, Try.ntmps26
    go_wp2_with fail
    refine (D1.out _ HP.out).mono ?_
    rintro e w1 ⟨rfl, hb⟩
    have Q1 := Lib.hid (HQ.out.below hb); have B1 := Lib.hid hb
    clear hb
    go_wp2_with fail
    refine (D2.out _ Q1.out).mono ?_
    rintro e w2 ⟨rfl, hb⟩
    have B2 := Lib.hid (B1.out.trans (hb.mono B1.out.size))
    clear hb
    go_wp2_with fail
    go_ret2
    exact ⟨rfl, B2.out⟩

set_option maxRecDepth 100000 in
set_option maxHeartbeats 4000000 in
theorem refOver_bad (p : Option Addr) (n cap : Nat) (F U V : Nat → Int) (q : Option Addr) (m capq : Nat) (G H I : Nat → Int) (E1 E2 X : Int) (w : World) (hP : PcsAt w p n F U V) (hQ : PcsAt w q m G H I) (C1 : ChecksTo 17 p n cap F U V E1) (C2 : ChecksTo 17 q m capq G H I E2) (hX : (E1 ≠ 0 ∧ X = E1) ∨ (E1 = 0 ∧ E2 ≠ 0 ∧ X = E2)) :
    Calls Try.prog 28 #[.slice p n cap, .slice q m capq] w fun e w' => e = .returned (.tuple #[.slice none 0 0, .int .i64 X]) ∧ Below w.heap.size w w' := by
  have HP := Lib.hid hP; have HQ := Lib.hid hQ; have D1 := Lib.hid C1; have D2 := Lib.hid C2
  clear hP hQ C1 C2
  rcases hX with ⟨h, rfl⟩ | ⟨rfl, h, rfl⟩
  · have hx : (X != 0) = true := by simpa using h
    have hx2 : (X == 0) = false := by simpa using h
    clear h
    go_enter Try.func28, Try.ntmps28
    go_wp2_with fail
    refine (D1.out _ HP.out).mono ?_
    rintro e w1 ⟨rfl, hb⟩
    go_wp2_with fail
    go_ret2
    exact ⟨rfl, hb⟩
  · have hx : (X != 0) = true := by simpa using h
    have hx2 : (X == 0) = false := by simpa using h
    clear h
    go_enter Try.func28, Try.ntmps28
    go_wp2_with fail
    refine (D1.out _ HP.out).mono ?_
    rintro e w1 ⟨rfl, hb⟩
    have Q1 := Lib.hid (HQ.out.below hb); have B1 := Lib.hid hb
    clear hb
    go_wp2_with fail
    refine (D2.out _ Q1.out).mono ?_
    rintro e w2 ⟨rfl, hb⟩
    have B2 := Lib.hid (B1.out.trans (hb.mono B1.out.size))
    clear hb
    go_wp2_with fail
    go_ret2
    exact ⟨rfl, B2.out⟩

set_option maxRecDepth 100000 in
set_option maxHeartbeats 4000000 in
theorem joins_large (p : Option Addr) (n cap : Nat) (q : Option Addr) (m capq : Nat) (w : World) (hn : ¬ ((n ≤ 40 ∨ (1024 < n ∧ n ≤ 1034)) ∧ (m ≤ 40 ∨ (1024 < m ∧ m ≤ 1034)))) :
    Calls Try.prog 5 #[.slice p n cap, .slice q m capq] w fun e w' => e = .returned (.bool true) ∧ Below w.heap.size w w' := by
  by_cases h1 : (n ≤ 40 ∨ (1024 < n ∧ n ≤ 1034))
  · have eA : decide (n ≤ 40 ∨ (1024 < n ∧ n ≤ 1034)) = true := decide_eq_true h1
    have eB : decide (m ≤ 40 ∨ (1024 < m ∧ m ≤ 1034)) = false := decide_eq_false (fun h => hn ⟨h1, h⟩)
    clear hn h1
    go_enter Try.func5, Try.ntmps5
    go_wp2_with fail
    refine (awake_true _).mono ?_
    rintro e1 w1 ⟨rfl, hb⟩
    have B1 := Lib.hid hb
    clear hb
    go_wp2_with fail
    refine (Few_any _ _ _ _).mono ?_
    rintro e1 w2 ⟨rfl, hb⟩
    have B2 := Lib.hid (B1.out.trans (hb.mono B1.out.size))
    clear hb B1
    rw [eA]
    go_wp2_with fail
    refine (Few_any _ _ _ _).mono ?_
    rintro e1 w3 ⟨rfl, hb⟩
    have B3 := Lib.hid (B2.out.trans (hb.mono B2.out.size))
    clear hb B2
    rw [eB]
    go_wp2_with fail
    go_ret
    exact ⟨rfl, B3.out⟩
  · have eA : decide (n ≤ 40 ∨ (1024 < n ∧ n ≤ 1034)) = false := decide_eq_false h1
    clear hn h1
    go_enter Try.func5, Try.ntmps5
    go_wp2_with fail
    refine (awake_true _).mono ?_
    rintro e1 w1 ⟨rfl, hb⟩
    have B1 := Lib.hid hb
    clear hb
    go_wp2_with fail
    refine (Few_any _ _ _ _).mono ?_
    rintro e1 w2 ⟨rfl, hb⟩
    have B2 := Lib.hid (B1.out.trans (hb.mono B1.out.size))
    clear hb B1
    rw [eA]
    go_wp2_with fail
    go_ret
    exact ⟨rfl, B2.out⟩

set_option maxRecDepth 100000 in
set_option maxHeartbeats 8000000 in
theorem joins_bad (p : Option Addr) (n cap : Nat) (F U V : Nat → Int) (q : Option Addr) (m capq : Nat) (G H I : Nat → Int) (E1 E2 X : Int) (w : World) (hP : PcsAt w p n F U V) (hQ : PcsAt w q m G H I) (hn : (n ≤ 40 ∨ (1024 < n ∧ n ≤ 1034)) ∧ (m ≤ 40 ∨ (1024 < m ∧ m ≤ 1034))) (C1 : ChecksTo 16 p n cap F U V E1) (C2 : ChecksTo 16 q m capq G H I E2) (C3 : ChecksTo 17 p n cap F U V E1) (C4 : ChecksTo 17 q m capq G H I E2) (hX : (E1 ≠ 0 ∧ X = E1) ∨ (E1 = 0 ∧ E2 ≠ 0 ∧ X = E2)) :
    Calls Try.prog 5 #[.slice p n cap, .slice q m capq] w fun e w' => e = .returned (.bool true) ∧ Below w.heap.size w w' := by
  have eA : decide (n ≤ 40 ∨ (1024 < n ∧ n ≤ 1034)) = true := decide_eq_true hn.1
  have eB : decide (m ≤ 40 ∨ (1024 < m ∧ m ≤ 1034)) = true := decide_eq_true hn.2
  have D1 := Lib.hid (fun w hP hQ => Changes_bad p n cap F U V q m capq G H I E1 E2 X w hP hQ C1 C2 hX)
  have D2 := Lib.hid (fun w hP hQ => refChanges_bad p n cap F U V q m capq G H I E1 E2 X w hP hQ C3 C4 hX)
  have D3 := Lib.hid (fun w hP hQ => Over_bad p n cap F U V q m capq G H I E1 E2 X w hP hQ C1 C2 hX)
  have D4 := Lib.hid (fun w hP hQ => refOver_bad p n cap F U V q m capq G H I E1 E2 X w hP hQ C3 C4 hX)
  have P0 := Lib.hid hP; have Q0 := Lib.hid hQ
  clear hP hQ C1 C2 C3 C4 hX hn
  go_enter Try.func5, Try.ntmps5
  go_wp2_with fail
  refine (awake_true _).mono ?_
  rintro e1 w1 ⟨rfl, hb⟩
  have P1 := Lib.hid (P0.out.below hb); have Q1 := Lib.hid (Q0.out.below hb); have B1 := Lib.hid hb
  clear hb P0 Q0
  go_wp2_with fail
  refine (Few_any _ _ _ _).mono ?_
  rintro e1 w2 ⟨rfl, hb⟩
  have P2 := Lib.hid (P1.out.below hb); have Q2 := Lib.hid (Q1.out.below hb); have B2 := Lib.hid (B1.out.trans (hb.mono B1.out.size))
  clear hb P1 Q1 B1
  rw [eA]
  go_wp2_with fail
  refine (Few_any _ _ _ _).mono ?_
  rintro e1 w3 ⟨rfl, hb⟩
  have P3 := Lib.hid (P2.out.below hb); have Q3 := Lib.hid (Q2.out.below hb); have B3 := Lib.hid (B2.out.trans (hb.mono B2.out.size))
  clear hb P2 Q2 B2
  rw [eB]
  go_wp2_with fail
  refine (D1.out _ P3.out Q3.out).mono ?_
  rintro e1 w4 ⟨rfl, hb⟩
  have P4 := Lib.hid (P3.out.below hb); have Q4 := Lib.hid (Q3.out.below hb); have B4 := Lib.hid (B3.out.trans (hb.mono B3.out.size))
  clear hb P3 Q3 B3
  go_wp2_with fail
  refine (D2.out _ P4.out Q4.out).mono ?_
  rintro e1 w5 ⟨rfl, hb⟩
  have P5 := Lib.hid (P4.out.below hb); have Q5 := Lib.hid (Q4.out.below hb); have B5 := Lib.hid (B4.out.trans (hb.mono B4.out.size))
  clear hb P4 Q4 B4
  go_wp2_with fail
  refine (D3.out _ P5.out Q5.out).mono ?_
  rintro e1 w6 ⟨rfl, hb⟩
  have P6 := Lib.hid (P5.out.below hb); have Q6 := Lib.hid (Q5.out.below hb); have B6 := Lib.hid (B5.out.trans (hb.mono B5.out.size))
  clear hb P5 Q5 B5
  go_wp2_with fail
  refine (D4.out _ P6.out Q6.out).mono ?_
  rintro e1 w7 ⟨rfl, hb⟩
  have P7 := Lib.hid (P6.out.below hb); have Q7 := Lib.hid (Q6.out.below hb); have B7 := Lib.hid (B6.out.trans (hb.mono B6.out.size))
  clear hb P6 Q6 B6
  go_wp2_with fail
  refine (SameSpans_eq none none 0 0 0 F U F U _ (Or.inl rfl) (Or.inl rfl) (by omega) (fun i hi => absurd hi (by omega))).mono ?_
  rintro e1 w8 ⟨rfl, hb⟩
  have B8 := Lib.hid (B7.out.trans (hb.mono B7.out.size))
  clear hb P7 Q7 B7
  go_wp2_with fail
  refine (Same_nil _).mono ?_
  rintro e1 w9 ⟨rfl, hb⟩
  have B9 := Lib.hid (B8.out.trans (hb.mono B8.out.size))
  clear hb B8
  go_wp2_with fail
  go_ret
  exact ⟨rfl, B9.out⟩

set_option maxRecDepth 100000 in
set_option maxHeartbeats 16000000 in
theorem joins_ok (p : Option Addr) (n cap : Nat) (F U V : Nat → Int) (q : Option Addr) (m capq : Nat) (G H I : Nat → Int) (w : World) (hP : PcsAt w p n F U V) (hQ : PcsAt w q m G H I) (hcp : n ≤ cap) (hcq : m ≤ capq) (hn : n ≤ 40) (hm : m ≤ 40) (hT : Tl n F U V) (hT2 : Tl m G H I) :
    Calls Try.prog 5 #[.slice p n cap, .slice q m capq] w fun e w' => e = .returned (.bool true) ∧ Below w.heap.size w w' := by
  have eA : decide (n ≤ 40 ∨ (1024 < n ∧ n ≤ 1034)) = true := decide_eq_true (by omega)
  have eB : decide (m ≤ 40 ∨ (1024 < m ∧ m ≤ 1034)) = true := decide_eq_true (by omega)
  obtain ⟨va, oa, ha⟩ : ∃ (va : Int → Int) (oa : Int → Bool), ∀ d, AtRes n F U V d (va d) (oa d) :=
    ⟨fun d => (has_res (V := V) hT.1 d).choose, fun d => (has_res (V := V) hT.1 d).choose_spec.choose, fun d => (has_res (V := V) hT.1 d).choose_spec.choose_spec⟩
  obtain ⟨vb, ob, hb0⟩ : ∃ (vb : Int → Int) (ob : Int → Bool), ∀ d, AtRes m G H I d (vb d) (ob d) :=
    ⟨fun d => (has_res (V := I) hT2.1 d).choose, fun d => (has_res (V := I) hT2.1 d).choose_spec.choose, fun d => (has_res (V := I) hT2.1 d).choose_spec.choose_spec⟩
  have P0 := Lib.hid hP; have Q0 := Lib.hid hQ; have T1 := Lib.hid hT; have T2 := Lib.hid hT2; have HA := Lib.hid ha; have HB := Lib.hid hb0
  clear hP hQ hT hT2 ha hb0
  go_enter Try.func5, Try.ntmps5
  go_wp2_with fail
  refine (awake_true _).mono ?_
  rintro e1 w1 ⟨rfl, hb⟩
  have P1 := Lib.hid (P0.out.below hb); have Q1 := Lib.hid (Q0.out.below hb); have B1 := Lib.hid hb
  clear hb P0 Q0
  go_wp2_with fail
  refine (Few_any _ _ _ _).mono ?_
  rintro e1 w2 ⟨rfl, hb⟩
  have P2 := Lib.hid (P1.out.below hb); have Q2 := Lib.hid (Q1.out.below hb); have B2 := Lib.hid (B1.out.trans (hb.mono B1.out.size))
  clear hb P1 Q1 B1
  rw [eA]
  go_wp2_with fail
  refine (Few_any _ _ _ _).mono ?_
  rintro e1 w3 ⟨rfl, hb⟩
  have P3 := Lib.hid (P2.out.below hb); have Q3 := Lib.hid (Q2.out.below hb); have B3 := Lib.hid (B2.out.trans (hb.mono B2.out.size))
  clear hb P2 Q2 B2
  rw [eB]
  go_wp2_with fail
  refine (changes_loop p n cap F U V q m capq G H I va oa vb ob _ P3.out Q3.out hcp hcq (by omega) T1.out T2.out HA.out HB.out).mono ?_
  rintro e1 w4 ⟨v, L, T, n3, F3, U3, V3, xs, rfl, hBo, hown, hsc, hT3, h10, hH3, hb⟩
  obtain ⟨ps, cs, rfl, hsp⟩ := spans_in hown hsc
  have BO := Lib.hid hBo; have S4 := Lib.hid hsp; have T3 := Lib.hid hT3; have H3 := Lib.hid (loop_has hBo T1.out T2.out HA.out HB.out hT3 hH3)
  have P4 := Lib.hid (P3.out.below hb); have Q4 := Lib.hid (Q3.out.below hb); have B4 := Lib.hid (B3.out.trans (hb.mono B3.out.size))
  clear hb P3 Q3 B3 hBo hown hsc hT3 hH3 hsp
  go_wp2_with fail
  refine (refChanges_ok p n cap F U V q m capq G H I va oa vb ob L T _ P4.out Q4.out hn hm T1.out T2.out HA.out HB.out BO.out).mono ?_
  rintro e1 w5 ⟨v2, n4, F4, U4, V4, ys, rfl, hown, hsc, hT4, h11, hH4, hb⟩
  obtain ⟨pt, ct, rfl, hsp⟩ := spans_in hown hsc
  obtain ⟨rfl, heq⟩ := T3.out.unique hT4 (fun d x => (H3.out d x).trans (hH4 d x).symm)
  have EQ : Hid (∀ i, i < n3 → F3 i = F4 i ∧ U3 i = U4 i) := fun i hi => ⟨(heq i hi).1, (heq i hi).2.1⟩
  have S5 := Lib.hid (S4.out.next hb); have R5 := Lib.hid hsp
  have P5 := Lib.hid (P4.out.below hb); have Q5 := Lib.hid (Q4.out.below hb); have B5 := Lib.hid (B4.out.trans (hb.mono B4.out.size))
  clear hb P4 Q4 B4 S4 hown hsc hT4 hH4 hsp heq H3 T3
  go_wp2_with fail
  refine (over_ok p n cap F U V q m capq G H I va oa vb ob _ P5.out Q5.out hcp hcq (by omega) T1.out T2.out HA.out HB.out).mono ?_
  rintro e1 w6 ⟨p3, n6, cap6, F6, U6, V6, rfl, hL6, hT6, hn6, hH6, hb⟩
  have hn7 : n6 ≤ 160 := by omega
  have T6 := Lib.hid hT6; have H6 : Hid (∀ d x, Has n6 F6 U6 V6 d x ↔ (0 ≤ d ∧ d < 1048576) ∧ fOver va vb oa ob d x) := fun d x => ⟨fun g => ⟨g.range hT6.1, (hH6 d x).1 g⟩, fun g => (hH6 d x).2 g.2⟩
  have L6 := Lib.hid hL6.pcs
  have S6 := Lib.hid (S5.out.next hb); have R6 := Lib.hid (R5.out.next hb)
  have P6 := Lib.hid (P5.out.below hb); have Q6 := Lib.hid (Q5.out.below hb); have B6 := Lib.hid (B5.out.trans (hb.mono B5.out.size))
  clear hb P5 Q5 B5 S5 R5 hL6 hT6 hH6 hn6
  go_wp2_with fail
  refine (refOver_ok p n cap F U V q m capq G H I va oa vb ob L T _ P6.out Q6.out hn hm T1.out T2.out HA.out HB.out BO.out).mono ?_
  rintro e1 w7 ⟨p4, n8, cap8, F8, U8, V8, rfl, hP8, hT8, h12, hH8, hb⟩
  obtain ⟨rfl, heq⟩ := T6.out.unique hT8 (fun d x => (H6.out d x).trans (hH8 d x).symm)
  have EQ2 := Lib.hid heq
  have S7 := Lib.hid (S6.out.next hb); have R7 := Lib.hid (R6.out.next hb); have L7 := Lib.hid (L6.out.below hb); have M7 := Lib.hid hP8
  have B7 := Lib.hid (B6.out.trans (hb.mono B6.out.size))
  clear hb P6 Q6 B6 S6 R6 L6 hP8 hT8 hH8 heq H6 T6
  go_wp2_with fail
  refine (SameSpans_eq ps pt n3 cs ct F3 U3 F4 U4 _ S7.out R7.out (by omega) EQ.out).mono ?_
  rintro e1 w8 ⟨rfl, hb⟩
  have L8 := Lib.hid (L7.out.below hb); have M8 := Lib.hid (M7.out.below hb)
  have B8 := Lib.hid (B7.out.trans (hb.mono B7.out.size))
  clear hb S7 R7 L7 M7 B7
  go_wp2_with fail
  refine (Same_eq p3 p4 n6 cap6 cap8 F6 U6 V6 F8 U8 V8 _ L8.out M8.out (by omega) EQ2.out).mono ?_
  rintro e1 w9 ⟨rfl, hb⟩
  have B9 := Lib.hid (B8.out.trans (hb.mono B8.out.size))
  clear hb L8 M8 B8
  go_wp2_with fail
  go_ret
  exact ⟨rfl, B9.out⟩

theorem joins_law (p : Option Addr) (n cap : Nat) (F U V : Nat → Int) (q : Option Addr) (m capq : Nat) (G H I : Nat → Int) (w : World) (hP : PcsAt w p n F U V) (hQ : PcsAt w q m G H I) (hcp : n ≤ cap) (hcq : m ≤ capq) :
    Calls Try.prog 5 #[.slice p n cap, .slice q m capq] w fun e w' => e = .returned (.bool true) ∧ Below w.heap.size w w' := by
  by_cases hn : (n ≤ 40 ∨ (1024 < n ∧ n ≤ 1034)) ∧ (m ≤ 40 ∨ (1024 < m ∧ m ≤ 1034))
  · obtain ⟨E1, C1, C3, h1⟩ := check_both p n cap F U V
    obtain ⟨E2, C2, C4, h2⟩ := check_both q m capq G H I
    by_cases z1 : E1 = 0
    · have y1 := ordP_iff.1 (h1.1 z1)
      by_cases z2 : E2 = 0
      · have y2 := ordP_iff.1 (h2.1 z2)
        exact joins_ok p n cap F U V q m capq G H I w hP hQ hcp hcq (by omega) (by omega) y1.2 y2.2
      · exact joins_bad p n cap F U V q m capq G H I E1 E2 E2 w hP hQ hn C1 C2 C3 C4 (Or.inr ⟨z1, z2, rfl⟩)
    · exact joins_bad p n cap F U V q m capq G H I E1 E2 E1 w hP hQ hn C1 C2 C3 C4 (Or.inl ⟨z1, rfl⟩)
  · exact joins_large p n cap q m capq w hn

set_option maxRecDepth 100000 in
theorem joins_lifted (os : Os) (started : os.Started) (H : Type) (enc : TypeId × Value → H) :
    ReturnsInHanded {} Try.checked os 5 .any (Rows.timelineJoinsSpec.pre6 enc Try.prog Try.f5 [] false) (Rows.timelineJoinsSpec.post enc Try.prog Try.f5 false true false false) := by
  refine returnsInHanded_of_change (C := Try.checked) own started (by kernel_rfl) Try.func5
    (ChangeSpec.witness6 (enc := enc) (C := Try.checked) false ⟨#[], #[.slice none 0 0, .slice none 0 0], []⟩ 8 (by kernel_rfl) (by kernel_rfl) (by kernel_rfl) (by kernel_rfl)) ?_
  intro W base args ds gs before hval0 hW _ _
  have hval : ∀ (j : Nat) t v, Try.f5.params[j]? = some t → args[j]? = some v → Value.okWide Try.prog W .any base t v := hval0
  have hW' := hW
  obtain ⟨p, q, hA0, hV, rfl, hfz, hnd⟩ := hW
  have hA : DataW.TrodAll enc Try.prog W 0 (fun _ => true) true Try.f5.params.toList args.toList ds p := hA0
  rw [Try.params5] at hA hval
  obtain ⟨v0, v1, d0, d1, p0, p1, rfl, rfl, rfl, h0, h1⟩ := trodAll_two hA
  obtain ⟨rfl, rfl⟩ := trodVars_none hV
  obtain ⟨A0, n0, c0, F0, U0, V0, rfl, HG0⟩ := open_pcs (hval 0 22 v0 rfl rfl) h0
  obtain ⟨A1, n1, c1, F1, U1, V1, rfl, HG1⟩ := open_pcs (hval 1 22 v1 rfl rfl) h1
  refine (joins_law A0 n0 c0 F0 U0 V0 A1 n1 c1 F1 U1 V1 W HG0 HG1 (pcs_cap h0) (pcs_cap h1)).mono fun e W' ⟨he, hb⟩ => ?_
  subst he
  exact ⟨_, rfl, post_true rfl rfl (by kernel_rfl) hW' rfl hb⟩

theorem joins_said : Rows.TimelineJoinsSaid :=
  OpenClaim.holds_of_wide 5 Try.f5 rfl rfl rfl rfl rfl rfl rfl ⟨rfl, rfl, rfl, rfl, rfl⟩ rfl rfl rfl rfl rfl (by kernel_rfl) Try.func5 (by kernel_rfl)
    (of_decide_eq_true (by kernel_rfl)) (by unfold Func.isWrapper; first | (rw [if_pos (by decide +kernel)]; kernel_rfl) | (rw [if_neg (by decide +kernel)]; exact ⟨rfl, rfl⟩))
    (fun os started H enc _ => joins_lifted os started H enc)
#print axioms joins_said

end Go.Proofs.Ytcgjhbjbfdbfaaa
