/-
  What the reference's Set and Clear answer where the timeline and the span are valid. No statement of the seat is proved here.
-/
import Derived.Test.YtcgjhbjbfdbfaaaCu
import Derived.Test.YtcgjhbjbfdbfaaaAw
namespace Go.Proofs.Ytcgjhbjbfdbfaaa
open Go.RowKit

theorem has_until {n : Nat} {F U V : Nat → Int} {y : Int} (h : Wk n F U) (hh : ∀ d x, Has n F U V d x → d < y) {i : Nat} (hi : i < n) : U i ≤ y := by
  have g := h.1 i hi
  have := hh (U i - 1) (V i) ⟨i, hi, by omega, by omega, rfl⟩
  omega
theorem has_from {n : Nat} {F U V : Nat → Int} {y : Int} (h : Wk n F U) (hh : ∀ d x, Has n F U V d x → y ≤ d) {i : Nat} (hi : i < n) : y ≤ F i := by
  have g := h.1 i hi
  exact hh (F i) (V i) ⟨i, hi, by omega, by omega, rfl⟩
theorem Has.range {n : Nat} {F U V : Nat → Int} {d x : Int} (h : Wk n F U) (g : Has n F U V d x) : 0 ≤ d ∧ d < 1048576 := by
  obtain ⟨i, i1, i2, i3, _⟩ := g
  have := h.1 i i1
  omega
theorem PcsAt.grown' {w w' : World} {b : Nat} {p : Option Addr} {n : Nat} {F U V : Nat → Int} (h : PcsAt w p n F U V) (hg : w.grownBy w' (some b)) (hb : ∀ c o, p = some ⟨c, o, none⟩ → 0 < n → c ≠ b) : PcsAt w' p n F U V := by
  rcases Nat.eq_zero_or_pos n with k | k
  · exact Or.inl k
  · exact h.grown hg (fun c o e => hb c o e k)
theorem SpanAt.grown {w w' : World} {c b : Nat} {x y : Int} (h : SpanAt w c x y) (hg : w.grownBy w' (some b)) (hne : c ≠ b) : SpanAt w' c x y :=
  ⟨hg.cell h.1 (fun e => hne (Option.some.inj e)), hg.cell h.2 (fun e => hne (Option.some.inj e))⟩

/-- What change answers. -/
def Changed (n : Nat) (F U V : Nat → Int) (a b : Int) (m : Nat) (G H I : Nat → Int) (w : World) (e : Ending) (w' : World) : Prop :=
  ∃ p2 n2 cap2 F2 U2 V2, e = .returned (.tuple #[.slice p2 n2 cap2, .int .i64 0]) ∧ PcsAt w' p2 n2 F2 U2 V2 ∧ Below w.heap.size w w' ∧ Tl n2 F2 U2 V2 ∧ ∀ d x, Has n2 F2 U2 V2 d x ↔ (¬ (a ≤ d ∧ d < b) ∧ Has n F U V d x) ∨ Has m G H I d x

set_option maxRecDepth 100000 in
set_option maxHeartbeats 8000000 in
theorem change_ok (p : Option Addr) (n cap : Nat) (F U V : Nat → Int) (a b : Int) (q : Option Addr) (m capq : Nat) (G H I : Nat → Int) (w : World) (hP : PcsAt w p n F U V) (hQ : PcsAt w q m G H I) (hn : n ≤ 400) (hm : m ≤ 2) (hT : Tl n F U V) (hW : Wk m G H) (hs : spn a b)
    (hG : ∀ j, j < m → a ≤ G j ∧ H j ≤ b) (C : ChecksTo 17 p n cap F U V 0) :
    Calls Try.prog 39 #[.slice p n cap, .agg #[.int .i64 a, .int .i64 b], .slice q m capq] w (Changed n F U V a b m G H I w) := by
  have P0 := Lib.hid (hP.below ((Below.refl _ _).alloc (Nat.le_refl _) (.cells #[.int .i64 a, .int .i64 b] 33)))
  have Q0 := Lib.hid (hQ.below ((Below.refl _ _).alloc (Nat.le_refl _) (.cells #[.int .i64 a, .int .i64 b] 33)))
  have T := Lib.hid hT; have HS := Lib.hid hs; have D := Lib.hid C; have W0 := Lib.hid hW; have HG := Lib.hid hG
  have ZP : Hid (∀ c o, p = some ⟨c, o, none⟩ → 0 < n → c < w.heap.size) := fun c o e h => by
    rcases hP with h' | ⟨c', o', e', h'⟩
    · omega
    · rw [e] at e'
      cases e'
      exact (h' 0 h).lt
  have ZQ : Hid (∀ c o, q = some ⟨c, o, none⟩ → 0 < m → c < w.heap.size) := fun c o e h => by
    rcases hQ with h' | ⟨c', o', e', h'⟩
    · omega
    · rw [e] at e'
      cases e'
      exact (h' 0 h).lt
  have S0 : Hid (SpanAt (w.alloc (.cells #[.int .i64 a, .int .i64 b] 33)) w.heap.size a b) := ⟨World.cell?_alloc_new w _ 33 0, World.cell?_alloc_new w _ 33 1⟩
  have B0 : Hid (Below w.heap.size w (w.alloc (.cells #[.int .i64 a, .int .i64 b] 33))) := (Below.refl _ _).alloc (Nat.le_refl _) _
  have es : decide (spn a b) = true := decide_eq_true hs
  clear hP hQ hT hs C hW hG
  go_enter Try.func39, Try.ntmps39
  go_wp2_with fail
  refine (D.out _ P0.out).mono ?_
  rintro e w1 ⟨rfl, hb⟩
  have P1 := Lib.hid (P0.out.below hb); have Q1 := Lib.hid (Q0.out.below hb); have S1 := Lib.hid (S0.out.below hb S0.out.lt); have B1 := Lib.hid (B0.out.trans (hb.mono B0.out.size))
  have s0 := S1.out.1; have s1 := S1.out.2
  clear hb P0 Q0 S0 B0
  go_wp2_with fail
  refine (Good_any a b _).mono ?_
  rintro e w4 ⟨rfl, hb⟩
  have P4 := Lib.hid (P1.out.below hb); have Q4 := Lib.hid (Q1.out.below hb); have S4 := Lib.hid (S1.out.below hb S1.out.lt); have B4 := Lib.hid (B1.out.trans (hb.mono B1.out.size))
  clear hb s0 s1 P1 Q1 S1 B1
  rw [es]
  have zs := S4.out.lt
  have hwz := B4.out.size
  go_wp2_with fail
  go_region_held3 (fun v => v.cell? ⟨w.heap.size, 0, none⟩ = some (.int .i64 a) ∧ v.cell? ⟨w.heap.size, 1, none⟩ = some (.int .i64 b)) (first | exact S4.out | assumption)
    ((first
      | (go_at_call 50; refine (cut_loop p n cap F U V b 1048576 _ P6.out (by omega) T.out.1).mono ?_; rintro e w7 ⟨_, rfl, ⟨b3, n3, cap3, F3, U3, V3, rfl, hR3, hb3, hT3, hn3, hH3, _⟩, hB7⟩; have T3 := Lib.hid hT3; have P3 := Lib.hid hR3.pcs; have R7 := Lib.hid (R6.out.next hB7); have N3 : Hid (∀ c o, some (⟨b3, 0, none⟩ : Addr) = some ⟨c, o, none⟩ → 0 < n3 → c ≠ b2) := (fun c o e _ => by cases e; omega); have U23 : Hid (∀ i, i < n2 → ∀ j, j < n3 → U2 i ≤ F3 j) := (fun i hi j hj => Int.le_trans (X2.out i hi) (has_from hT3.1 (fun d x h => ((hH3 d x).1 h).1.1) hj)); have hs7 : w7.cell? ⟨w.heap.size, 0, none⟩ = some (.int .i64 a) ∧ w7.cell? ⟨w.heap.size, 1, none⟩ = some (.int .i64 b) := SpanAt.below hs6 hB7 (SpanAt.lt hs6))
      | (go_at_call 50; refine (cut_loop p n cap F U V 0 a _ (show PcsAt w4.drew p n F U V from P4.out) (by omega) T.out.1).mono ?_; rintro e w5 ⟨_, rfl, ⟨b1, n1, cap1, F1, U1, V1, rfl, hR1, hb1, hT1, hn1, hH1, _⟩, hB5⟩; have R1 := Lib.hid hR1; have T1 := Lib.hid hT1; have hb1' : w4.heap.size ≤ b1 := hb1; have hz5 : w4.heap.size ≤ w5.heap.size := hB5.size; have P5 := Lib.hid (PcsAt.below (show PcsAt w4.drew p n F U V from P4.out) hB5); have Q5 := Lib.hid (PcsAt.below (show PcsAt w4.drew q m G H I from Q4.out) hB5); have N1 : Hid (∀ c o, q = some ⟨c, o, none⟩ → 0 < m → c ≠ b1) := (fun c o e h => by have := ZQ.out c o e h; omega); have Y1 : Hid (∀ c o, p = some ⟨c, o, none⟩ → 0 < n → c ≠ b1) := (fun c o e h => by have := ZP.out c o e h; omega); have Z2 : Hid (∀ d x, Has n1 F1 U1 V1 d x ∨ Has m G H I d x → d < b) := (fun d x h => h.elim (fun h => by have := ((hH1 d x).1 h).1.2; have := HS.out.2.1; omega) (fun ⟨j, j1, _, j3, _⟩ => by have := (HG.out j j1).2; omega)); have HU1 : Hid (∀ i, i < n1 → ∀ j, j < m → U1 i ≤ G j) := (fun i hi j hj => Int.le_trans (has_until hT1.1 (fun d x h => ((hH1 d x).1 h).1.2) hi) (HG.out j hj).1); have hs5 : w5.cell? ⟨w.heap.size, 0, none⟩ = some (.int .i64 a) ∧ w5.cell? ⟨w.heap.size, 1, none⟩ = some (.int .i64 b) := SpanAt.below (show SpanAt w4.drew w.heap.size a b from S4.out) hB5 zs)
      | (go_at_call 49; refine (refjoin_loop b2 n2 cap2 F2 U2 V2 (some ⟨b3, 0, none⟩) n3 cap3 F3 U3 V3 _ R7.out T2.out P3.out T3.out.1 N3.out (by omega) U23.out).mono ?_; rintro e w8 ⟨_, rfl, b4, n4, cap4, F4, U4, V4, rfl, hR4, hg4, hb4, hT4, hn4, hH4, _⟩; have hs8 : w8.cell? ⟨w.heap.size, 0, none⟩ = some (.int .i64 a) ∧ w8.cell? ⟨w.heap.size, 1, none⟩ = some (.int .i64 b) := SpanAt.grown hs7 hg4 (by omega))
      | (go_at_call 49; refine (refjoin_loop b1 n1 cap1 F1 U1 V1 q m capq G H I _ R1.out T1.out Q5.out W0.out N1.out (by omega) HU1.out).mono ?_; rintro e w6 ⟨_, rfl, b2, n2, cap2, F2, U2, V2, rfl, hR2, hg2, hb2, hT2, hn2, hH2, _⟩; have R6 := Lib.hid hR2; have T2 := Lib.hid hT2; have zb2 := hR2.lt.1; have hb2' : w4.heap.size ≤ b2 := (by omega); have P6 := Lib.hid (P5.out.grown' hg2 Y1.out); have X2 : Hid (∀ i, i < n2 → U2 i ≤ b) := (fun i hi => has_until hT2.1 (fun d x h => Z2.out d x ((hH2 d x).1 h)) hi); have hs6 : w6.cell? ⟨w.heap.size, 0, none⟩ = some (.int .i64 a) ∧ w6.cell? ⟨w.heap.size, 1, none⟩ = some (.int .i64 b) := SpanAt.grown hs5 hg2 (by omega))))
  have B8 : Hid (Below w.heap.size w w8) := by
    have h5 : Below w.heap.size w w5 := B4.out.trans ((below_drewN (Below.refl _ w4) 1).trans (hB5.mono hwz))
    have h6 : Below w.heap.size w w6 := h5.grown hg2 h5.size (fun k e => by cases e; omega)
    have h7 : Below w.heap.size w w7 := h6.trans (hB7.mono h6.size)
    exact h7.grown hg4 h7.size (fun k e => by cases e; omega)
  have H8 : Hid (∀ d x, Has n4 F4 U4 V4 d x ↔ (¬ (a ≤ d ∧ d < b) ∧ Has n F U V d x) ∨ Has m G H I d x) := fun d x => by
    rw [hH4, hH2, hH1, hH3]
    have hab := HS.out.2.1
    constructor
    · rintro ((h | h) | h)
      · exact Or.inl ⟨by omega, h.2⟩
      · exact Or.inr h
      · exact Or.inl ⟨by omega, h.2⟩
    · rintro (h | h)
      · have := h.2.range T.out.1
        rcases (show d < a ∨ b ≤ d by omega) with k | k
        · exact Or.inl (Or.inl ⟨⟨this.1, k⟩, h.2⟩)
        · exact Or.inr ⟨⟨k, this.2⟩, h.2⟩
      · exact Or.inl (Or.inr h)
  have P8 := Lib.hid hR4.pcs; have T8 := Lib.hid hT4
  have hn9 : (n4 : Int) ≤ 1024 := by omega
  clear hB5 hR1 hH1 hR2 hg2 hT2 hH2 hB7 hR3 hT3 hH3 hR4 hg4 hT4 hH4 hs5 hs6 hs7 hs8 hT1
  go_wp2_with fail
  go_ret2
  exact ⟨_, n4, cap4, F4, U4, V4, rfl, P8.out, B8.out, T8.out, H8.out⟩

set_option maxRecDepth 100000 in
set_option maxHeartbeats 4000000 in
theorem refSet_ok (p : Option Addr) (n cap : Nat) (F U V : Nat → Int) (a b v : Int) (w : World) (hP : PcsAt w p n F U V) (hn : n ≤ 400) (hT : Tl n F U V) (hs : spn a b) (C : ChecksTo 17 p n cap F U V 0) :
    Calls Try.prog 21 #[.slice p n cap, .agg #[.int .i64 a, .int .i64 b], .int .i64 v] w fun e w' => ∃ p2 n2 cap2 F2 U2 V2, e = .returned (.tuple #[.slice p2 n2 cap2, .int .i64 0]) ∧ PcsAt w' p2 n2 F2 U2 V2 ∧ Below w.heap.size w w' ∧ Tl n2 F2 U2 V2 ∧ ∀ d x, Has n2 F2 U2 V2 d x ↔ (¬ (a ≤ d ∧ d < b) ∧ Has n F U V d x) ∨ (a ≤ d ∧ d < b ∧ v = x) := by
  have B0 : Hid (Below w.heap.size w ((w.alloc (.cells #[.int .i64 a, .int .i64 b] 33)).alloc (.cells #[.int .i64 a, .int .i64 b, .int .i64 v] 47))) := ((Below.refl _ _).alloc (Nat.le_refl _) _).alloc (by simp) _
  have D := Lib.hid (change_ok p n cap F U V a b (some ⟨w.heap.size + 1, 0, none⟩) 1 1 (fun _ => a) (fun _ => b) (fun _ => v) _ (hP.below B0.out) (by
    have := (Pc.new (w.alloc (.cells #[.int .i64 a, .int .i64 b] 33)) a b v 47).pcs1
    simpa using this) hn (by omega) hT ⟨fun _ _ => hs, fun i hi => absurd hi (by omega)⟩ hs (fun _ _ => ⟨Int.le_refl _, Int.le_refl _⟩) C)
  clear hP hT hs C
  go_enter Try.func21, Try.ntmps21
  go_wp2_with fail
  refine D.out.mono ?_
  rintro e w1 ⟨p2, n2, cap2, F2, U2, V2, rfl, hP2, hB2, hT2, hH2⟩
  have P2 := Lib.hid hP2; have B2 := Lib.hid (B0.out.trans (hB2.mono B0.out.size)); have T2 := Lib.hid hT2; have H2 := Lib.hid hH2
  clear hP2 hB2 hT2 hH2 D
  go_wp2_with fail
  go_ret2
  exact ⟨p2, n2, cap2, F2, U2, V2, rfl, P2.out, B2.out, T2.out, fun d x => by rw [H2.out, Has.one]⟩

set_option maxRecDepth 100000 in
set_option maxHeartbeats 4000000 in
theorem refClear_ok (p : Option Addr) (n cap : Nat) (F U V : Nat → Int) (a b : Int) (w : World) (hP : PcsAt w p n F U V) (hn : n ≤ 400) (hT : Tl n F U V) (hs : spn a b) (C : ChecksTo 17 p n cap F U V 0) :
    Calls Try.prog 23 #[.slice p n cap, .agg #[.int .i64 a, .int .i64 b]] w fun e w' => ∃ p2 n2 cap2 F2 U2 V2, e = .returned (.tuple #[.slice p2 n2 cap2, .int .i64 0]) ∧ PcsAt w' p2 n2 F2 U2 V2 ∧ Below w.heap.size w w' ∧ Tl n2 F2 U2 V2 ∧ ∀ d x, Has n2 F2 U2 V2 d x ↔ ¬ (a ≤ d ∧ d < b) ∧ Has n F U V d x := by
  have B0 : Hid (Below w.heap.size w (w.alloc (.cells #[.int .i64 a, .int .i64 b] 33))) := (Below.refl _ _).alloc (Nat.le_refl _) _
  have D := Lib.hid (change_ok p n cap F U V a b none 0 0 (fun _ => a) (fun _ => b) (fun _ => 0) _ (hP.below B0.out) (Or.inl rfl) hn (by omega) hT ⟨fun _ h => absurd h (by omega), fun i hi => absurd hi (by omega)⟩ hs (fun _ h => absurd h (by omega)) C)
  clear hP hT hs C
  go_enter Try.func23, Try.ntmps23
  go_wp2_with fail
  refine D.out.mono ?_
  rintro e w1 ⟨p2, n2, cap2, F2, U2, V2, rfl, hP2, hB2, hT2, hH2⟩
  have P2 := Lib.hid hP2; have B2 := Lib.hid (B0.out.trans (hB2.mono B0.out.size)); have T2 := Lib.hid hT2; have H2 := Lib.hid hH2
  clear hP2 hB2 hT2 hH2 D
  go_wp2_with fail
  go_ret2
  exact ⟨p2, n2, cap2, F2, U2, V2, rfl, P2.out, B2.out, T2.out, fun d x => by rw [H2.out]; exact or_iff_left Has.zero⟩

end Go.Proofs.Ytcgjhbjbfdbfaaa
