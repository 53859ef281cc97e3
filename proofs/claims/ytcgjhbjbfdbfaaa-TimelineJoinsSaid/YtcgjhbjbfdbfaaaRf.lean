/-
  What the reference's Over answers. No statement of the seat is proved here.
-/
import Derived.Test.YtcgjhbjbfdbfaaaNx
import Derived.Test.YtcgjhbjbfdbfaaaCh
namespace Go.Proofs.Ytcgjhbjbfdbfaaa
open Go.RowKit

theorem refAt_any (p : Option Addr) (n cap : Nat) (F U V : Nat → Int) (d : Int) (w : World) (hP : PcsAt w p n F U V) (hn : (n : Int) ≤ 1099511627776) (hW : Wk n F U) :
    Calls Try.prog 13 #[.slice p n cap, .int .i64 d] w fun e w' => ∃ A O, e = .returned (.tuple #[.int .i64 A, .bool O]) ∧ Below w.heap.size w w' ∧ AtRes n F U V d A O := by
  rcases has_first (V := V) hW d with ⟨m, m1, m2, m3, m4⟩ | ⟨m2, m4⟩
  · refine (refAt_loop p n cap m F U V d w hP hn (by omega) m2 (V m) true (Or.inr ⟨m1, m3, rfl, rfl⟩)).mono ?_
    rintro e w' ⟨rfl, h⟩
    exact ⟨V m, true, rfl, h, Or.inl ⟨rfl, (m4 _).2 rfl⟩⟩
  · refine (refAt_loop p n cap n F U V d w hP hn (Nat.le_refl _) m2 0 false (Or.inl ⟨rfl, rfl, rfl⟩)).mono ?_
    rintro e w' ⟨rfl, h⟩
    exact ⟨0, false, rfl, h, Or.inr ⟨rfl, rfl, m4⟩⟩

/-- What the reference has gathered up to a day. -/
def RefTo (B : Nat) (f : Int → Int → Prop) (D : Int) (k : Nat) (wr : World) (v : Value) : Prop :=
  ∃ b2 n2 cap2 F2 U2 V2, v = .slice (some ⟨b2, 0, none⟩) n2 cap2 ∧ Row 0 wr b2 n2 cap2 F2 U2 V2 ∧ B ≤ b2 ∧ Tl n2 F2 U2 V2 ∧ n2 ≤ k ∧ (∀ d x, Has n2 F2 U2 V2 d x ↔ (0 ≤ d ∧ d < D) ∧ f d x) ∧ ∀ i, i < n2 → U2 i ≤ D
theorem refTo_skip {B k b2 n2 cap2 : Nat} {f : Int → Int → Prop} {D E : Int} {wr : World} {F2 U2 V2 : Nat → Int} (hR : Row 0 wr b2 n2 cap2 F2 U2 V2) (hB : B ≤ b2) (hT : Tl n2 F2 U2 V2) (hn : n2 ≤ k) (hH : ∀ d x, Has n2 F2 U2 V2 d x ↔ (0 ≤ d ∧ d < D) ∧ f d x) (hU : ∀ i, i < n2 → U2 i ≤ D)
    (hE : D < E) (hf : ∀ d x, D ≤ d → d < E → ¬ f d x) : RefTo B f E (k + 1) wr (.slice (some ⟨b2, 0, none⟩) n2 cap2) := by
  refine ⟨b2, n2, cap2, F2, U2, V2, rfl, hR, hB, hT, by omega, fun d x => ?_, fun i hi => by have := hU i hi; omega⟩
  rw [hH]
  constructor
  · rintro ⟨h, g⟩; exact ⟨by omega, g⟩
  · rintro ⟨h, g⟩
    refine ⟨⟨h.1, ?_⟩, g⟩
    apply Classical.byContradiction
    intro c
    exact hf d x (by omega) h.2 g
theorem refTo_put {B k b2 n2 : Nat} {f : Int → Int → Prop} {D E v : Int} {w w' : World} {F2 U2 V2 : Nat → Int} {r : Value} (hP : Put b2 n2 F2 U2 V2 D E v w r w') (hB : B ≤ b2) (hBw : B ≤ w.heap.size) (hn : n2 ≤ k) (hH : ∀ d x, Has n2 F2 U2 V2 d x ↔ (0 ≤ d ∧ d < D) ∧ f d x) (hU : ∀ i, i < n2 → U2 i ≤ D)
    (h0 : 0 ≤ D) (hE : D < E) (hf : ∀ d x, D ≤ d → d < E → (f d x ↔ v = x)) : RefTo B f E (k + 1) w' r := by
  obtain ⟨b5, n5, cap5, F5, U5, V5, rfl, hR, hG, hb, hT, h5, hH5, hU5⟩ := hP
  refine ⟨b5, n5, cap5, F5, U5, V5, rfl, hR, ?_, hT, by omega, fun d x => ?_, fun i hi => hU5 E (fun i hi => by have := hU i hi; omega) (fun _ => Int.le_refl _) i hi⟩
  · rcases hb with h | h
    · omega
    · omega
  · rw [hH5, hH]
    constructor
    · rintro (⟨h, g⟩ | ⟨h1, h2, h3⟩)
      · exact ⟨by omega, g⟩
      · exact ⟨by omega, (hf d x h1 h2).2 h3⟩
    · rintro ⟨h, g⟩
      rcases (show d < D ∨ D ≤ d by omega) with c | c
      · exact Or.inl ⟨⟨h.1, c⟩, g⟩
      · exact Or.inr ⟨c, h.2, (hf d x c h.2).1 g⟩

/-- A day that the reference comes to, after k rounds. -/
def Day (L : Nat) (T : Nat → Int) (D : Int) (k : Nat) : Prop := 0 ≤ D ∧ D ≤ 1048576 ∧ k ≤ L + 1 ∧ (k = 0 ∨ D = 1048576 ∨ ∃ j, j < L ∧ T j = D ∧ k ≤ j + 1)
theorem Day.bound {n m L : Nat} {F U G H T : Nat → Int} {D E : Int} {k : Nat} (hB : BoundsOf n F U m G H L T) (h : Day L T D k) (hD : D < 1048576) (hE : D < E) (hE9 : E ≤ 1048576) (hb : E = 1048576 ∨ Bd n F U m G H E) : Day L T E (k + 1) := by
  obtain ⟨d0, d1, d2, d3⟩ := h
  have hk : k ≤ L := by
    rcases d3 with h | h | ⟨j, j1, j2, j3⟩ <;> omega
  refine ⟨by omega, hE9, by omega, Or.inr ?_⟩
  rcases hb with h | h
  · exact Or.inl h
  · obtain ⟨i, i1, i2⟩ := (hB.2.1 E).2 h
    refine Or.inr ⟨i, i1, i2, ?_⟩
    rcases d3 with h | h | ⟨j, j1, j2, j3⟩
    · omega
    · omega
    · have : j < i := by
        apply Classical.byContradiction
        intro g
        rcases (show i = j ∨ i < j by omega) with c | c
        · subst c; omega
        · have := hB.1 i j c j1; omega
      omega
theorem Day.step {n m L : Nat} {F U G H T : Nat → Int} {D E Na Nb : Int} {k : Nat} (hB : BoundsOf n F U m G H L T) (h : Day L T D k) (hD : D < 1048576) (ha : NextOf n F U D Na) (hb : NextOf m G H D Nb) (hE : (E = Na ∧ Na ≤ Nb) ∨ (E = Nb ∧ Nb ≤ Na)) : D < E ∧ Day L T E (k + 1) := by
  have a1 := ha.1
  have b1 := hb.1
  have key : D < E ∧ (E = 1048576 ∨ Bd n F U m G H E) := by
    rcases hE with ⟨rfl, hE⟩ | ⟨rfl, hE⟩
    · rcases ha.2.2 with h | ⟨h, i, i1, i2⟩
      · exact ⟨by omega, Or.inl h⟩
      · exact ⟨h, Or.inr (Or.inl ⟨i, i1, i2⟩)⟩
    · rcases hb.2.2 with h | ⟨h, i, i1, i2⟩
      · exact ⟨by omega, Or.inl h⟩
      · exact ⟨h, Or.inr (Or.inr ⟨i, i1, i2⟩)⟩
  exact ⟨key.1, h.bound hB hD key.1 (by omega) key.2⟩
/-- The values stay the same between two such days. -/
theorem same_between {n m : Nat} {F U V G H I : Nat → Int} {va vb : Int → Int} {oa ob : Int → Bool} {D E Na Nb : Int} (hW : Wk n F U) (hW2 : Wk m G H) (ha : ∀ d, AtRes n F U V d (va d) (oa d)) (hb : ∀ d, AtRes m G H I d (vb d) (ob d)) (hna : NextOf n F U D Na) (hnb : NextOf m G H D Nb) (hE : (E = Na ∧ Na ≤ Nb) ∨ (E = Nb ∧ Nb ≤ Na))
    (d : Int) (h1 : D ≤ d) (h2 : d < E) : (va d = va D ∧ oa d = oa D) ∧ vb d = vb D ∧ ob d = ob D :=
  ⟨AtRes.iff hW (ha D) (ha d) (fun x => next_const hna.2.1 h1 (by omega) x), AtRes.iff hW2 (hb D) (hb d) (fun x => next_const hnb.2.1 h1 (by omega) x)⟩

/-- The value of one timeline over another. -/
def fOver (va vb : Int → Int) (oa ob : Int → Bool) (d x : Int) : Prop := (ob d = true ∧ vb d = x) ∨ (ob d = false ∧ oa d = true ∧ va d = x)
/-- A piece where two timelines differ. -/
def fDif (va vb : Int → Int) (oa ob : Int → Bool) (d x : Int) : Prop := Dif va vb oa ob d ∧ 0 = x

set_option maxRecDepth 100000 in
set_option maxHeartbeats 8000000 in
theorem refOver_ok (p : Option Addr) (n cap : Nat) (F U V : Nat → Int) (q : Option Addr) (m capq : Nat) (G H I : Nat → Int) (va : Int → Int) (oa : Int → Bool) (vb : Int → Int) (ob : Int → Bool) (L : Nat) (T : Nat → Int) (w : World) (hP : PcsAt w p n F U V) (hQ : PcsAt w q m G H I) (hn : n ≤ 40) (hm : m ≤ 40)
    (hT : Tl n F U V) (hT2 : Tl m G H I) (ha : ∀ d, AtRes n F U V d (va d) (oa d)) (hb : ∀ d, AtRes m G H I d (vb d) (ob d)) (hBo : BoundsOf n F U m G H L T) :
    Calls Try.prog 28 #[.slice p n cap, .slice q m capq] w fun e w' => ∃ p3 n3 cap3 F3 U3 V3, e = .returned (.tuple #[.slice p3 n3 cap3, .int .i64 0]) ∧ PcsAt w' p3 n3 F3 U3 V3 ∧ Tl n3 F3 U3 V3 ∧ n3 ≤ 161 ∧ (∀ d x, Has n3 F3 U3 V3 d x ↔ (0 ≤ d ∧ d < 1048576) ∧ fOver va vb oa ob d x) ∧ Below w.heap.size w w' := by
  obtain ⟨E1, C1, C1', z1⟩ := check_both p n cap F U V
  obtain ⟨E2, C2, C2', z2⟩ := check_both q m capq G H I
  obtain rfl : E1 = 0 := z1.2 (ordP_iff.2 ⟨by omega, hT⟩)
  obtain rfl : E2 = 0 := z2.2 (ordP_iff.2 ⟨by omega, hT2⟩)
  have hL9 : L ≤ 160 := by have := hBo.2.2; omega
  have P0 := Lib.hid hP; have Q0 := Lib.hid hQ; have D1 := Lib.hid C1'; have D2 := Lib.hid C2'; have T1 := Lib.hid hT; have T2 := Lib.hid hT2; have HA := Lib.hid ha; have HB := Lib.hid hb; have BO := Lib.hid hBo
  clear hP hQ C1 C1' C2 C2' z1 z2 hT hT2 ha hb hBo
  go_enter Try.func28, Try.ntmps28
  go_wp2_with fail
  refine (D1.out _ P0.out).mono ?_
  rintro e w1 ⟨rfl, hb⟩
  have P1 := Lib.hid (P0.out.below hb); have Q1 := Lib.hid (Q0.out.below hb); have B1 := Lib.hid hb
  clear hb P0 Q0
  go_wp2_with fail
  refine (D2.out _ Q1.out).mono ?_
  rintro e w2 ⟨rfl, hb⟩
  have P2 := Lib.hid (P1.out.below hb); have Q2 := Lib.hid (Q1.out.below hb); have B2 := Lib.hid (B1.out.trans (hb.mono B1.out.size))
  have hzB := B2.out.size
  clear hb P1 Q1 B1
  go_wp2_with fail
  go_loopw [7, 8] (fun v i wr => ∃ (D : Int) (k : Nat), i = .int .i64 D ∧ Day L T D k ∧ RefTo w2.heap.size (fOver va vb oa ob) D k wr v ∧ Below w2.heap.size w2 wr) (fun _ i _ => (1048576 - intOf i).toNat)
  case atStart => exact ⟨0, 0, rfl, ⟨Int.le_refl _, by omega, by omega, Or.inl rfl⟩, ⟨w2.heap.size, 0, 0, F, U, V, rfl, ⟨0, _, HoldsN.newA w2 #[] 47, Nat.le_refl _, Nat.le_refl _, fun i hi => absurd hi (by omega), Nat.zero_le _⟩, Nat.le_refl _, Tl.nil, Nat.le_refl _, fun d x => ⟨fun h => absurd h Has.zero, fun h => by omega⟩, fun i hi => absurd hi (by omega)⟩, (Below.refl _ _).alloc (Nat.le_refl _) _⟩
  case round =>
    obtain ⟨D, k, rfl, hday, ⟨b2, n2, cap2, F2, U2, V2, rfl, hR, hB2, hT2, hn2, hH, hU⟩, hb⟩ := hrel
    have NB := Lib.hid hb; have NR := Lib.hid hR; have NT := Lib.hid hT2; have NH := Lib.hid hH; have NU := Lib.hid hU; have ND := Lib.hid hday
    have hD0 := hday.1
    have hk9 := hday.2.2.1
    have hD9 := hday.2.1
    have P3 := Lib.hid (P2.out.below hb); have Q3 := Lib.hid (Q2.out.below hb)
    clear hb hR hT2 hH hU hday
    by_cases hDd : D < 1048576
    · have hkd : decide (D < 1048576) = true := decide_eq_true hDd
      go_wp2_with fail
      refine (next_loop p n cap F U V D _ P3.out (by omega) T1.out.1).mono ?_
      rintro e w3 ⟨Na, rfl, hNa, hb⟩
      have NA := Lib.hid hNa
      have P4 := Lib.hid (P3.out.below hb); have Q4 := Lib.hid (Q3.out.below hb); have R4 := Lib.hid (NR.out.next hb); have B4 := Lib.hid (NB.out.trans (hb.mono NB.out.size))
      clear hb hNa P3 Q3 NR NB
      go_wp2_with fail
      refine (next_loop q m capq G H I D _ Q4.out (by omega) T2.out.1).mono ?_
      rintro e w4 ⟨Nb, rfl, hNb, hb⟩
      have NBB := Lib.hid hNb
      have P5 := Lib.hid (P4.out.below hb); have Q5 := Lib.hid (Q4.out.below hb); have R5 := Lib.hid (R4.out.next hb); have B5 := Lib.hid (B4.out.trans (hb.mono B4.out.size))
      clear hb hNb P4 Q4 R4 B4
      obtain ⟨E, tE, hE⟩ : ∃ E, min Na Nb = E ∧ ((E = Na ∧ Na ≤ Nb) ∨ (E = Nb ∧ Nb ≤ Na)) := ⟨min Na Nb, rfl, by omega⟩
      have HE := Lib.hid hE
      have SB := Lib.hid (same_between T1.out.1 T2.out.1 HA.out HB.out NA.out NBB.out hE)
      obtain ⟨hDE, hday⟩ := ND.out.step BO.out hDd NA.out NBB.out hE
      have NDE := Lib.hid hday
      have hE9 := hday.2.1
      clear hE hday
      go_wp2_with fail
      refine (refAt_any p n cap F U V D _ P5.out (by omega) T1.out.1).mono ?_
      rintro e w5 ⟨a1, o1, rfl, hb, h1⟩
      have X1 := Lib.hid (AtRes.same T1.out.1 (HA.out D) h1 (fun x => Iff.rfl))
      have P6 := Lib.hid (P5.out.below hb); have Q6 := Lib.hid (Q5.out.below hb); have R6 := Lib.hid (R5.out.next hb); have B6 := Lib.hid (B5.out.trans (hb.mono B5.out.size))
      clear hb h1 P5 Q5 R5 B5
      go_wp2_with fail
      refine (refAt_any q m capq G H I D _ Q6.out (by omega) T2.out.1).mono ?_
      rintro e w6 ⟨a2, o2, rfl, hb, h2⟩
      have X2 := Lib.hid (AtRes.same T2.out.1 (HB.out D) h2 (fun x => Iff.rfl))
      have R7 := Lib.hid (R6.out.next hb); have B7 := Lib.hid (B6.out.trans (hb.mono B6.out.size))
      clear hb h2 P6 Q6 R6 B6
      have CT : Hid (∀ d, D ≤ d → d < E → (va d = a1 ∧ oa d = o1) ∧ vb d = a2 ∧ ob d = o2) := fun d g1 g2 => by
        obtain ⟨⟨c1, c2⟩, c3, c4⟩ := SB.out d g1 g2
        rw [c1, c2, c3, c4, X1.out.1, X1.out.2, X2.out.1, X2.out.2]; exact ⟨⟨rfl, rfl⟩, rfl, rfl⟩
      clear X1 X2 SB NA NBB HE tE
      have hz7 := B7.out.size
      cases o2
      · cases o1
        · have FF : Hid (∀ d x, D ≤ d → d < E → ¬ fOver va vb oa ob d x) := fun d x g1 g2 h => by
            obtain ⟨⟨c1, c2⟩, c3, c4⟩ := CT.out d g1 g2
            have h : (ob d = true ∧ vb d = x) ∨ (ob d = false ∧ oa d = true ∧ va d = x) := h
            rw [c1, c2, c3, c4] at h
            simp at h
          go_wp2_with fail
          go_roundw
          case rel => exact ⟨E, k + 1, rfl, NDE.out, refTo_skip R7.out hB2 NT.out hn2 NH.out NU.out hDE FF.out, B7.out⟩
          case measure => simp [intOf]; omega
        · have FF : Hid (∀ d x, D ≤ d → d < E → (fOver va vb oa ob d x ↔ a1 = x)) := fun d x g1 g2 => by
            obtain ⟨⟨c1, c2⟩, c3, c4⟩ := CT.out d g1 g2
            show (ob d = true ∧ vb d = x) ∨ (ob d = false ∧ oa d = true ∧ va d = x) ↔ _
            rw [c1, c2, c3, c4]; simp
          go_wp2_with fail
          refine (put_any b2 n2 cap2 F2 U2 V2 D E a1 _ R7.out (by omega) NT.out (fun h => ⟨hD0, h, hE9⟩) (fun _ i hi => NU.out i hi)).mono ?_
          rintro e w7 ⟨r7, rfl, hP7⟩
          have C7 := Lib.hid (refTo_put (B := w2.heap.size) hP7 hB2 hz7 hn2 NH.out NU.out hD0 hDE FF.out)
          have B8 := Lib.hid (B7.out.trans (put_below hP7 hB2 hz7))
          clear hP7
          go_wp2_with fail
          go_roundw
          case rel => exact ⟨E, k + 1, rfl, NDE.out, C7.out, B8.out⟩
          case measure => simp [intOf]; omega
      · have FF : Hid (∀ d x, D ≤ d → d < E → (fOver va vb oa ob d x ↔ a2 = x)) := fun d x g1 g2 => by
          obtain ⟨⟨c1, c2⟩, c3, c4⟩ := CT.out d g1 g2
          show (ob d = true ∧ vb d = x) ∨ (ob d = false ∧ oa d = true ∧ va d = x) ↔ _
          rw [c1, c2, c3, c4]; simp
        go_wp2_with fail
        refine (put_any b2 n2 cap2 F2 U2 V2 D E a2 _ R7.out (by omega) NT.out (fun h => ⟨hD0, h, hE9⟩) (fun _ i hi => NU.out i hi)).mono ?_
        rintro e w7 ⟨r7, rfl, hP7⟩
        have C7 := Lib.hid (refTo_put (B := w2.heap.size) hP7 hB2 hz7 hn2 NH.out NU.out hD0 hDE FF.out)
        have B8 := Lib.hid (B7.out.trans (put_below hP7 hB2 hz7))
        clear hP7
        go_wp2_with fail
        go_roundw
        case rel => exact ⟨E, k + 1, rfl, NDE.out, C7.out, B8.out⟩
        case measure => simp [intOf]; omega
    · have hkd : decide (D < 1048576) = false := decide_eq_false hDd
      obtain rfl : D = 1048576 := by omega
      have hng : decide ((n2 : Int) > 1024) = false := by simp; omega
      have hn9 : (n2 : Int) ≤ 1024 := by omega
      go_wp2_with fail
      go_ret2
      exact ⟨_, n2, ⟨cap2, rfl⟩, F2, U2, V2, NR.out.ls.pcs, NT.out, by omega, NH.out, B2.out.trans (NB.out.mono hzB)⟩

set_option maxRecDepth 100000 in
set_option maxHeartbeats 8000000 in
theorem refChanges_ok (p : Option Addr) (n cap : Nat) (F U V : Nat → Int) (q : Option Addr) (m capq : Nat) (G H I : Nat → Int) (va : Int → Int) (oa : Int → Bool) (vb : Int → Int) (ob : Int → Bool) (L : Nat) (T : Nat → Int) (w : World) (hP : PcsAt w p n F U V) (hQ : PcsAt w q m G H I) (hn : n ≤ 40) (hm : m ≤ 40)
    (hT : Tl n F U V) (hT2 : Tl m G H I) (ha : ∀ d, AtRes n F U V d (va d) (oa d)) (hb : ∀ d, AtRes m G H I d (vb d) (ob d)) (hBo : BoundsOf n F U m G H L T) :
    Calls Try.prog 26 #[.slice p n cap, .slice q m capq] w fun e w' => ∃ v n3 F3 U3 V3 xs, e = .returned (.tuple #[v, .int .i64 0]) ∧ w'.ownsRow w.heap.size 33 2 v n3 xs ∧ SpanCells xs n3 F3 U3 ∧ Tl n3 F3 U3 V3 ∧ n3 ≤ 161 ∧ (∀ d x, Has n3 F3 U3 V3 d x ↔ (0 ≤ d ∧ d < 1048576) ∧ fDif va vb oa ob d x) ∧ Below w.heap.size w w' := by
  obtain ⟨E1, C1, C1', z1⟩ := check_both p n cap F U V
  obtain ⟨E2, C2, C2', z2⟩ := check_both q m capq G H I
  obtain rfl : E1 = 0 := z1.2 (ordP_iff.2 ⟨by omega, hT⟩)
  obtain rfl : E2 = 0 := z2.2 (ordP_iff.2 ⟨by omega, hT2⟩)
  obtain ⟨i0, hi, hz0, hz1, hz2⟩ := info_parts info33
  have hL9 : L ≤ 160 := by have := hBo.2.2; omega
  have P0 := Lib.hid hP; have Q0 := Lib.hid hQ; have D1 := Lib.hid C1'; have D2 := Lib.hid C2'; have T1 := Lib.hid hT; have T2 := Lib.hid hT2; have HA := Lib.hid ha; have HB := Lib.hid hb; have BO := Lib.hid hBo
  clear hP hQ C1 C1' C2 C2' z1 z2 hT hT2 ha hb hBo
  go_enter Try.func26, Try.ntmps26
  go_wp2_with fail
  refine (D1.out _ P0.out).mono ?_
  rintro e w1 ⟨rfl, hb⟩
  have P1 := Lib.hid (P0.out.below hb); have Q1 := Lib.hid (Q0.out.below hb); have B1 := Lib.hid hb
  clear hb P0 Q0
  go_wp2_with fail
  refine (D2.out _ Q1.out).mono ?_
  rintro e w2 ⟨rfl, hb⟩
  have P2 := Lib.hid (P1.out.below hb); have Q2 := Lib.hid (Q1.out.below hb); have B2 := Lib.hid (B1.out.trans (hb.mono B1.out.size))
  have hzB := B2.out.size
  clear hb P1 Q1 B1
  go_wp2_with fail
  go_loopw [7, 8] (fun v i wr => ∃ (D : Int) (k : Nat), i = .int .i64 D ∧ Day L T D k ∧ RefTo w2.heap.size (fDif va vb oa ob) D k wr v ∧ Below w2.heap.size w2 wr) (fun _ i _ => (1048576 - intOf i).toNat)
  case atStart => exact ⟨0, 0, rfl, ⟨Int.le_refl _, by omega, by omega, Or.inl rfl⟩, ⟨w2.heap.size, 0, 0, F, U, V, rfl, ⟨0, _, HoldsN.newA w2 #[] 47, Nat.le_refl _, Nat.le_refl _, fun i hi => absurd hi (by omega), Nat.zero_le _⟩, Nat.le_refl _, Tl.nil, Nat.le_refl _, fun d x => ⟨fun h => absurd h Has.zero, fun h => by omega⟩, fun i hi => absurd hi (by omega)⟩, (Below.refl _ _).alloc (Nat.le_refl _) _⟩
  case round =>
    obtain ⟨D, k, rfl, hday, ⟨b2, n2, cap2, F2, U2, V2, rfl, hR, hB2, hT2, hn2, hH, hU⟩, hb⟩ := hrel
    have NB := Lib.hid hb; have NR := Lib.hid hR; have NT := Lib.hid hT2; have NH := Lib.hid hH; have NU := Lib.hid hU; have ND := Lib.hid hday
    have hD0 := hday.1
    have hk9 := hday.2.2.1
    have hD9 := hday.2.1
    have P3 := Lib.hid (P2.out.below hb); have Q3 := Lib.hid (Q2.out.below hb)
    clear hb hR hT2 hH hU hday
    by_cases hDd : D < 1048576
    · have hkd : decide (D < 1048576) = true := decide_eq_true hDd
      go_wp2_with fail
      refine (next_loop p n cap F U V D _ P3.out (by omega) T1.out.1).mono ?_
      rintro e w3 ⟨Na, rfl, hNa, hb⟩
      have NA := Lib.hid hNa
      have P4 := Lib.hid (P3.out.below hb); have Q4 := Lib.hid (Q3.out.below hb); have R4 := Lib.hid (NR.out.next hb); have B4 := Lib.hid (NB.out.trans (hb.mono NB.out.size))
      clear hb hNa P3 Q3 NR NB
      go_wp2_with fail
      refine (next_loop q m capq G H I D _ Q4.out (by omega) T2.out.1).mono ?_
      rintro e w4 ⟨Nb, rfl, hNb, hb⟩
      have NBB := Lib.hid hNb
      have P5 := Lib.hid (P4.out.below hb); have Q5 := Lib.hid (Q4.out.below hb); have R5 := Lib.hid (R4.out.next hb); have B5 := Lib.hid (B4.out.trans (hb.mono B4.out.size))
      clear hb hNb P4 Q4 R4 B4
      obtain ⟨E, tE, hE⟩ : ∃ E, min Na Nb = E ∧ ((E = Na ∧ Na ≤ Nb) ∨ (E = Nb ∧ Nb ≤ Na)) := ⟨min Na Nb, rfl, by omega⟩
      have HE := Lib.hid hE
      have SB := Lib.hid (same_between T1.out.1 T2.out.1 HA.out HB.out NA.out NBB.out hE)
      obtain ⟨hDE, hday⟩ := ND.out.step BO.out hDd NA.out NBB.out hE
      have NDE := Lib.hid hday
      have hE9 := hday.2.1
      clear hE hday
      go_wp2_with fail
      refine (refAt_any p n cap F U V D _ P5.out (by omega) T1.out.1).mono ?_
      rintro e w5 ⟨a1, o1, rfl, hb, h1⟩
      have X1 := Lib.hid (AtRes.same T1.out.1 (HA.out D) h1 (fun x => Iff.rfl))
      have P6 := Lib.hid (P5.out.below hb); have Q6 := Lib.hid (Q5.out.below hb); have R6 := Lib.hid (R5.out.next hb); have B6 := Lib.hid (B5.out.trans (hb.mono B5.out.size))
      clear hb h1 P5 Q5 R5 B5
      go_wp2_with fail
      refine (refAt_any q m capq G H I D _ Q6.out (by omega) T2.out.1).mono ?_
      rintro e w6 ⟨a2, o2, rfl, hb, h2⟩
      have X2 := Lib.hid (AtRes.same T2.out.1 (HB.out D) h2 (fun x => Iff.rfl))
      have R7 := Lib.hid (R6.out.next hb); have B7 := Lib.hid (B6.out.trans (hb.mono B6.out.size))
      clear hb h2 P6 Q6 R6 B6
      have CT : Hid (∀ d, D ≤ d → d < E → (va d = a1 ∧ oa d = o1) ∧ vb d = a2 ∧ ob d = o2) := fun d g1 g2 => by
        obtain ⟨⟨c1, c2⟩, c3, c4⟩ := SB.out d g1 g2
        rw [c1, c2, c3, c4, X1.out.1, X1.out.2, X2.out.1, X2.out.2]; exact ⟨⟨rfl, rfl⟩, rfl, rfl⟩
      clear X1 X2 SB NA NBB HE tE
      have hz7 := B7.out.size
      by_cases he : a1 = a2
      · subst he
        cases o1 <;> cases o2
        · have FF : Hid (∀ d x, D ≤ d → d < E → ¬ fDif va vb oa ob d x) := fun d x g1 g2 h => by
            obtain ⟨⟨c1, c2⟩, c3, c4⟩ := CT.out d g1 g2
            have h : ¬ (va d = vb d ∧ oa d = ob d) ∧ 0 = x := h
            rw [c1, c2, c3, c4] at h
            simp at h
          go_wp2_with fail
          go_roundw
          case rel => exact ⟨E, k + 1, rfl, NDE.out, refTo_skip R7.out hB2 NT.out hn2 NH.out NU.out hDE FF.out, B7.out⟩
          case measure => simp [intOf]; omega
        · have FF : Hid (∀ d x, D ≤ d → d < E → (fDif va vb oa ob d x ↔ 0 = x)) := fun d x g1 g2 => by
            obtain ⟨⟨c1, c2⟩, c3, c4⟩ := CT.out d g1 g2
            show ¬ (va d = vb d ∧ oa d = ob d) ∧ 0 = x ↔ _
            rw [c1, c2, c3, c4]; simp
          go_wp2_with fail
          refine (put_any b2 n2 cap2 F2 U2 V2 D E 0 _ R7.out (by omega) NT.out (fun h => ⟨hD0, h, hE9⟩) (fun _ i hi => NU.out i hi)).mono ?_
          rintro e w7 ⟨r7, rfl, hP7⟩
          have C7 := Lib.hid (refTo_put (B := w2.heap.size) hP7 hB2 hz7 hn2 NH.out NU.out hD0 hDE FF.out)
          have B8 := Lib.hid (B7.out.trans (put_below hP7 hB2 hz7))
          clear hP7
          go_wp2_with fail
          go_roundw
          case rel => exact ⟨E, k + 1, rfl, NDE.out, C7.out, B8.out⟩
          case measure => simp [intOf]; omega
        · have FF : Hid (∀ d x, D ≤ d → d < E → (fDif va vb oa ob d x ↔ 0 = x)) := fun d x g1 g2 => by
            obtain ⟨⟨c1, c2⟩, c3, c4⟩ := CT.out d g1 g2
            show ¬ (va d = vb d ∧ oa d = ob d) ∧ 0 = x ↔ _
            rw [c1, c2, c3, c4]; simp
          go_wp2_with fail
          refine (put_any b2 n2 cap2 F2 U2 V2 D E 0 _ R7.out (by omega) NT.out (fun h => ⟨hD0, h, hE9⟩) (fun _ i hi => NU.out i hi)).mono ?_
          rintro e w7 ⟨r7, rfl, hP7⟩
          have C7 := Lib.hid (refTo_put (B := w2.heap.size) hP7 hB2 hz7 hn2 NH.out NU.out hD0 hDE FF.out)
          have B8 := Lib.hid (B7.out.trans (put_below hP7 hB2 hz7))
          clear hP7
          go_wp2_with fail
          go_roundw
          case rel => exact ⟨E, k + 1, rfl, NDE.out, C7.out, B8.out⟩
          case measure => simp [intOf]; omega
        · have FF : Hid (∀ d x, D ≤ d → d < E → ¬ fDif va vb oa ob d x) := fun d x g1 g2 h => by
            obtain ⟨⟨c1, c2⟩, c3, c4⟩ := CT.out d g1 g2
            have h : ¬ (va d = vb d ∧ oa d = ob d) ∧ 0 = x := h
            rw [c1, c2, c3, c4] at h
            simp at h
          go_wp2_with fail
          go_roundw
          case rel => exact ⟨E, k + 1, rfl, NDE.out, refTo_skip R7.out hB2 NT.out hn2 NH.out NU.out hDE FF.out, B7.out⟩
          case measure => simp [intOf]; omega
      · have d1 : (a1 == a2) = false := bool_ne he
        have d2 : (a1 != a2) = true := by simpa using he
        have HNE := Lib.hid he
        clear he
        have FF : Hid (∀ d x, D ≤ d → d < E → (fDif va vb oa ob d x ↔ 0 = x)) := fun d x g1 g2 => by
          obtain ⟨⟨c1, c2⟩, c3, c4⟩ := CT.out d g1 g2
          show ¬ (va d = vb d ∧ oa d = ob d) ∧ 0 = x ↔ _
          rw [c1, c2, c3, c4]; simp [HNE.out]
        go_wp2_with fail
        refine (put_any b2 n2 cap2 F2 U2 V2 D E 0 _ R7.out (by omega) NT.out (fun h => ⟨hD0, h, hE9⟩) (fun _ i hi => NU.out i hi)).mono ?_
        rintro e w7 ⟨r7, rfl, hP7⟩
        have C7 := Lib.hid (refTo_put (B := w2.heap.size) hP7 hB2 hz7 hn2 NH.out NU.out hD0 hDE FF.out)
        have B8 := Lib.hid (B7.out.trans (put_below hP7 hB2 hz7))
        clear hP7
        go_wp2_with fail
        go_roundw
        case rel => exact ⟨E, k + 1, rfl, NDE.out, C7.out, B8.out⟩
        case measure => simp [intOf]; omega
    · have hkd : decide (D < 1048576) = false := decide_eq_false hDd
      obtain rfl : D = 1048576 := by omega
      have hng : decide ((n2 : Int) > 1024) = false := by simp; omega
      have hn9 : (n2 : Int) ≤ 1024 := by omega
      obtain ⟨w8, rfl⟩ : ∃ w8, w8 = wr := ⟨_, rfl⟩
      have L4 := Lib.hid NR.out.ls.pcs
      have hz3 := NB.out.size
      go_wp2_with fail
      go_loopw [14, 15] (fun v i wx => ∃ (l : Nat) (ys : List Value), l ≤ n2 ∧ i = .int .i64 l ∧ wx.ownsRow w8.heap.size 33 2 v l ys ∧ SpanCells ys l F2 U2 ∧ Below w8.heap.size w8 wx) (fun _ i _ => n2 - iv i)
      case atStart => exact ⟨0, [], Nat.zero_le _, rfl, World.ownsRow_made w8 _ 0 (Nat.le_refl _) (by unfold maxLen; omega) rfl, ⟨rfl, fun i hi => absurd hi (by omega)⟩, (Below.refl _ _).alloc (Nat.le_refl _) _⟩
      case round =>
        obtain ⟨l, ys, hl, rfl, hown, hsc, hbx⟩ := hrel
        have NO := Lib.hid hown; have NS := Lib.hid hsc; have NX := Lib.hid hbx
        have hzx := hbx.size
        by_cases hln : l < n2
        · obtain ⟨blk, off, hp, hpc⟩ := L4.out.get hln
          cases hp
          have PW := Lib.hid (hpc.below hbx hpc.lt)
          have hkd : decide ((l : Int) < (n2 : Int)) = true := by simp; omega
          have hkz : (l : Int) < (n2 : Int) := by omega
          have q0 := PW.out.1; have q1 := PW.out.2.1; have q2 := PW.out.2.2
          simp only [Nat.zero_add] at q0 q1 q2
          have zb := PW.out.lt
          have BX : Hid (Below wr.heap.size wr (wr.alloc (.cells #[.int .i64 (F2 l), .int .i64 (U2 l)] 33))) := (Below.refl _ _).alloc (Nat.le_refl _) _
          have OX : Hid ((wr.alloc (.cells #[.int .i64 (F2 l), .int .i64 (U2 l)] 33)).ownsRow w8.heap.size 33 2 u14 l ys) := NO.out.alloc _
          have NW : Hid (∀ j u, [Value.int .i64 (F2 l), .int .i64 (U2 l)][j]? = some u → (wr.alloc (.cells #[.int .i64 (F2 l), .int .i64 (U2 l)] 33)).cell? ((⟨wr.heap.size, 0, none⟩ : Addr).add j) = some u) := fun j u hu => by
            rw [Addr.add_lit, Nat.zero_add, World.cell?_alloc_new]
            simpa using hu
          clear hown hsc hbx hpc
          go_wp2_with (at_builtin; refine wpList_append_own _ rfl (.tmp 72) (.tmp 78) 39 rfl w8.heap.size 33 i0 _ 2 16 Try.underlying39 hi hz0 hz1 hz2 rfl (by decide) _ _ _ rfl OX.out ⟨wr.heap.size, 0, none⟩ 1 1 [.int .i64 (F2 l), .int .i64 (U2 l)] rfl rfl NW.out (by intro u hu; simp at hu; rcases hu with h | h <;> subst h <;> rfl) (by unfold maxLen; omega) (by omega) (Nat.le_trans hzx BX.out.size) ?_; intro v' w5 hown' hgrow _)
          go_roundw
          case rel => exact ⟨l + 1, _, by omega, by go_num, hown', NS.out.snoc, NX.out.trans ((BX.out.mono hzx).grown hgrow (Nat.le_trans hzx BX.out.size) (fun g e => (OX.out.lt g e).1))⟩
          case measure => simp only [iv]; omega
        · have hkd : decide ((l : Int) < (n2 : Int)) = false := by simp; omega
          obtain rfl : l = n2 := by omega
          clear hown hsc hbx
          go_wp2_with fail
          go_ret2
          exact ⟨_, l, F2, U2, V2, ys, rfl, own_base NO.out (Nat.le_trans hzB hz3), NS.out, NT.out, by omega, NH.out, B2.out.trans ((NB.out.mono hzB).trans (NX.out.mono (Nat.le_trans hzB hz3)))⟩
end Go.Proofs.Ytcgjhbjbfdbfaaa
