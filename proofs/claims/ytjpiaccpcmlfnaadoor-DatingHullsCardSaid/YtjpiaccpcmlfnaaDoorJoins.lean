/-
  PROVED HERE: the law archivumlaw03.DatingJoins answers true for every two datings, list of datings and number: Years, Meet and Hull answer as the reference implementation does, values and errors. Condition: the package variable archivum/day.lengths holds what the program's text lays in it (the card ties that). Every input is spoken of (of lists of 41 to 1024 datings, and of more than 1034, the law itself asks nothing).
-/
import Derived.Test.YtjpiaccpcmlfnaaDoorRHu
import Derived.Test.YtjpiaccpcmlfnaaDoorRelates
import Derived.Deep.SlicePairs
namespace Go.Proofs.YtjpiaccpcmlfnaaDoor
open Go.ChangeShapes Go.WideShapes Go.ChangeAt Go.RowKit Go.Joins Cal

theorem spot_none {w : World} {a : Addr} {v : Value} (h : w.cell? (a.add 0) = some v) : a.spot = none := by
  obtain ⟨b, off, spot⟩ := a
  simpa [Addr.add] using World.cell?_spot h
theorem add_at {a : Addr} (h : a.spot = none) (i : Nat) : a.add i = ⟨a.block, a.off + i, none⟩ := by
  obtain ⟨b, off, spot⟩ := a
  subst h
  exact add_plain ..

/-- A list of datings that came in. -/
theorem open_dats {H : Type} {enc : TypeId × Value → H} {W : World} {base : Nat} {v : Value} {d : DataW H} {p : List MemPlace} (hv : Value.okWide Tryd.prog W .any base 30 v) (h : DataW.Trod enc Tryd.prog W 0 (fun _ => true) true 30 v d p) :
    ∃ (a : Option Addr) (n cap : Nat) (F L : Nat → Int), v = .slice a n cap ∧ DatsAt W a n F L := by
  obtain ⟨a0, len, cap, rfl⟩ := okWide_slice Tryd.underlying30 hv
  obtain ⟨fuel, hf⟩ := h
  rcases Go.Deep.open_slice_pairs Tryd.underlying30 Tryd.underlying23 cells23 rfl rfl cells3 cells3 hf with ⟨h0, _⟩ | ⟨a, ln, cp, m, k, V0, V1, D0, D1, P0, P1, hcs, _, hl, _, hmm, _, hx⟩
  · simp [Value.cells] at h0
    obtain ⟨rfl, rfl, rfl⟩ := h0
    exact ⟨none, 0, 0, fun _ => 0, fun _ => 0, rfl, Or.inl rfl⟩
  simp [Value.cells] at hcs
  obtain ⟨rfl, rfl, rfl⟩ := hcs
  simp only [if_true] at hmm
  refine ⟨some a, len, cap, fun i => intOf (V0 i), fun i => intOf (V1 i), rfl, ?_⟩
  by_cases hn : len = 0
  · exact Or.inl hn
  have hs : a.spot = none := spot_none (by simpa using (hx 0 (by omega)).1)
  refine Or.inr ⟨a.block, a.off, ?_, fun i hi => ?_⟩
  · have := add_at hs 0
    simpa [Addr.add] using congrArg some this
  · obtain ⟨c0, c1, t0, t1⟩ := hx i (by omega)
    obtain ⟨x0, e0, _, _⟩ := DataW.trod_int Tryd.underlying3 t0
    obtain ⟨x1, e1, _, _⟩ := DataW.trod_int Tryd.underlying3 t1
    simp at e0 e1
    rw [add_at hs] at c0 c1
    rw [e0] at c0
    rw [e1] at c1
    refine ⟨?_, ?_⟩
    · show W.cell? ⟨a.block, a.off + i * 2, none⟩ = some (.int .i64 (intOf (V0 i)))
      rw [c0, e0]; rfl
    · show W.cell? ⟨a.block, a.off + i * 2 + 1, none⟩ = some (.int .i64 (intOf (V1 i)))
      rw [Nat.add_assoc, c1, e1]; rfl

theorem first_bad (P : Nat → Prop) : ∀ n : Nat, ∃ m, m ≤ n ∧ (∀ i, i < m → P i) ∧ (m = n ∨ ¬ P m) := by
  intro n
  induction n with
  | zero => exact ⟨0, Nat.le_refl _, fun i hi => absurd hi (by omega), Or.inl rfl⟩
  | succ n ih =>
    obtain ⟨m, h1, h2, h3⟩ := ih
    rcases h3 with h3 | h3
    · subst h3
      rcases Classical.em (P m) with h | h
      · exact ⟨m + 1, Nat.le_refl _, fun i hi => by
          rcases (show i < m ∨ i = m by omega) with k | k
          · exact h2 i k
          · subst k; exact h, Or.inl rfl⟩
      · exact ⟨m, by omega, h2, Or.inr h⟩
    · exact ⟨m, by omega, h2, Or.inr h3⟩

/-- The code and the reference give one hull. -/
theorem hull_both (p : Option Addr) (n cap : Nat) (F L : Nat → Int) (hn : (n : Int) ≤ 40 ∨ 1024 < (n : Int)) : ∃ A B E : Int,
    (∀ w, DatsAt w p n F L → Calls Tryd.prog 22 #[.slice p n cap] w fun e w' => e = .returned (.tuple #[.agg #[.int .i64 A, .int .i64 B], .int .i64 E]) ∧ Below w.heap.size w w') ∧
    (∀ w, DatsAt w p n F L → Calls Tryd.prog 23 #[.slice p n cap] w fun e w' => e = .returned (.tuple #[.agg #[.int .i64 A, .int .i64 B], .int .i64 E]) ∧ Below w.heap.size w w') := by
  by_cases h0 : n = 0
  · subst h0
    exact ⟨0, 0, 9, fun w _ => Hull_empty p cap w, fun w _ => refHull_empty p cap w⟩
  by_cases h1 : 1024 < (n : Int)
  · exact ⟨0, 0, 8, fun w _ => Hull_large p n cap w h1, fun w _ => refHull_large p n cap w h1⟩
  obtain ⟨m, m1, m2, m3⟩ := first_bad (fun i => okD (F i) (L i)) n
  obtain ⟨A, B, E, hr⟩ : ∃ A B E : Int, (m = n ∧ A = hF F n ∧ B = hL L n ∧ E = 0) ∨ (m < n ∧ A = 0 ∧ B = 0 ∧ E = 1) := by
    rcases (show m = n ∨ m < n by omega) with h | h
    · exact ⟨_, _, _, Or.inl ⟨h, rfl, rfl, rfl⟩⟩
    · exact ⟨_, _, _, Or.inr ⟨h, rfl, rfl, rfl⟩⟩
  refine ⟨A, B, E, fun w hd => ?_, fun w hd => ?_⟩
  · rcases hd with hd | ⟨blk, off, rfl, hc⟩
    · omega
    · exact Hull_loop blk off n cap m F L w (by omega) (by omega) m1 hc m2 m3 A B E hr
  · rcases hd with hd | ⟨blk, off, rfl, hc⟩
    · omega
    · exact refHull_loop blk off n cap m F L w (by omega) (by omega) m1 hc m2 m3 A B E hr
/-- The code and the reference give the same years. -/
theorem years_both (a b k : Int) : ∃ A B E : Int,
    (∀ w, Table w → Calls Tryd.prog 18 #[.agg #[.int .i64 a, .int .i64 b], .int .i64 k] w fun e w' => e = .returned (.tuple #[.agg #[.int .i64 A, .int .i64 B], .int .i64 E]) ∧ Below w.heap.size w w') ∧
    (∀ w, Calls Tryd.prog 19 #[.agg #[.int .i64 a, .int .i64 b], .int .i64 k] w fun e w' => e = .returned (.tuple #[.agg #[.int .i64 A, .int .i64 B], .int .i64 E]) ∧ Below w.heap.size w w') := by
  by_cases h : okD a b
  case neg => exact ⟨0, 0, 1, fun w _ => Years_bad a b k w h, fun w => refYears_bad a b k w h⟩
  by_cases g : k < 0 ∨ 200 < k
  · exact ⟨0, 0, 2, fun w hT => Years_range a b k w hT h g, fun w => refYears_range a b k w h g⟩
  obtain ⟨y, m, d, hA⟩ := date_exists a (by omega) (by omega)
  obtain ⟨y', m', d', hB⟩ := date_exists b (by omega) (by omega)
  exact ⟨_, _, _, fun w hT => Years_good a b k y m d y' m' d' w hT h (by omega) (by omega) hA hB, fun w => refYears_good a b k y m d y' m' d' w h (by omega) (by omega) hA hB⟩

set_option maxRecDepth 100000 in
set_option maxHeartbeats 8000000 in
theorem joins_skip (a b c d k : Int) (p : Option Addr) (n cap : Nat) (w : World) (hT : Table w) (hn : (40 < (n : Int) ∧ (n : Int) ≤ 1024) ∨ 1034 < (n : Int)) :
    Calls Tryd.prog 4 #[.agg #[.int .i64 a, .int .i64 b], .agg #[.int .i64 c, .int .i64 d], .slice p n cap, .int .i64 k] w fun e w' => e = .returned (.bool true) ∧ Below w.heap.size w w' := by
  have HT := Lib.hid hT
  have hlt := hT.lt
  clear hT
  rcases hn with ⟨h1, h2⟩ | h1
  all_goals
    have h4 : 40 < (n : Int) := by omega
    go_enter Tryd.func4, Tryd.ntmps4
    go_wp2_with fail
    refine (awake_true _ (HT.out.below (by go_grown))).mono ?_
    rintro e w1 ⟨rfl, hb⟩
    have B1 : Hid (Below w.heap.size w w1) := Below.trans (b := (w.alloc (.cells #[.int .i64 a, .int .i64 b] 23)).alloc (.cells #[.int .i64 c, .int .i64 d] 23)) (by go_grown) (hb.mono (by simp; omega))
    clear hb
    go_wp2
    all_goals first | (go_ret; exact ⟨rfl, B1.out⟩) | (exfalso; (try simp only [Bool.not_eq_false', Bool.not_eq_true', decide_eq_true_eq, decide_eq_false_iff_not, Bool.and_eq_true, Bool.and_eq_false_imp, beq_iff_eq, bne_iff_ne, beq_eq_false_iff_ne, ne_eq, Decidable.not_not] at *); omega)

set_option maxRecDepth 100000 in
set_option maxHeartbeats 8000000 in
theorem joins_in (a b c d k A B E MF ML HF HL HE : Int) (MB : Bool) (p : Option Addr) (n cap : Nat) (F L : Nat → Int) (w : World) (hT : Table w) (hn : (n : Int) ≤ 40 ∨ (1024 < (n : Int) ∧ (n : Int) ≤ 1034)) (hD : DatsAt w p n F L)
    (m1 : meetF a b c d = MF) (m2 : meetL a b c d = ML) (m3 : meetB a b c d = MB)
    (C18 : ∀ w, Table w → Calls Tryd.prog 18 #[.agg #[.int .i64 a, .int .i64 b], .int .i64 k] w fun e w' => e = .returned (.tuple #[.agg #[.int .i64 A, .int .i64 B], .int .i64 E]) ∧ Below w.heap.size w w')
    (C19 : ∀ w, Calls Tryd.prog 19 #[.agg #[.int .i64 a, .int .i64 b], .int .i64 k] w fun e w' => e = .returned (.tuple #[.agg #[.int .i64 A, .int .i64 B], .int .i64 E]) ∧ Below w.heap.size w w')
    (C22 : ∀ w, DatsAt w p n F L → Calls Tryd.prog 22 #[.slice p n cap] w fun e w' => e = .returned (.tuple #[.agg #[.int .i64 HF, .int .i64 HL], .int .i64 HE]) ∧ Below w.heap.size w w')
    (C23 : ∀ w, DatsAt w p n F L → Calls Tryd.prog 23 #[.slice p n cap] w fun e w' => e = .returned (.tuple #[.agg #[.int .i64 HF, .int .i64 HL], .int .i64 HE]) ∧ Below w.heap.size w w') :
    Calls Tryd.prog 4 #[.agg #[.int .i64 a, .int .i64 b], .agg #[.int .i64 c, .int .i64 d], .slice p n cap, .int .i64 k] w fun e w' => e = .returned (.bool true) ∧ Below w.heap.size w w' := by
  have HT := Lib.hid hT
  have HD := Lib.hid hD
  have hlt := hT.lt
  have D18 := Lib.hid C18; have D19 := Lib.hid C19; have D22 := Lib.hid C22; have D23 := Lib.hid C23
  have M1 := Lib.hid m1; have M2 := Lib.hid m2; have M3 := Lib.hid m3
  clear hT hD C18 C19 C22 C23 m1 m2 m3
  rcases hn with h1 | ⟨h1, h2⟩
  all_goals
    go_enter Tryd.func4, Tryd.ntmps4
    go_wp2_with fail
    refine (awake_true _ (HT.out.below (by go_grown))).mono ?_
    rintro e w1 ⟨rfl, hb⟩
    have B1 : Hid (Below w.heap.size w w1) := Below.trans (b := (w.alloc (.cells #[.int .i64 a, .int .i64 b] 23)).alloc (.cells #[.int .i64 c, .int .i64 d] 23)) (by go_grown) (hb.mono (by simp; omega))
    have X1 := Lib.hid (((Box.new w a b).alloc (.cells #[.int .i64 c, .int .i64 d] 23)).next hb)
    have Y1 := Lib.hid ((box_second w a b c d).next hb)
    have G1 := Lib.hid (HD.out.below B1.out)
    clear hb
    have a0 := X1.out.c0; have a1 := X1.out.c1; have b0 := Y1.out.c0; have b1 := Y1.out.c1
    go_wp2_with fail
    refine ((D18.out _ (HT.out.below B1.out))).mono ?_
    rintro e v0 ⟨rfl, hb0⟩
    have hz := hb0.size
    obtain ⟨w2, hw⟩ : ∃ V : World, v0.alloc (.cells #[.int .i64 A, .int .i64 B] 23) = V := ⟨_, rfl⟩
    have hb : Below w1.heap.size w1 w2 := by rw [← hw]; exact hb0.alloc hz _
    have X2 := Lib.hid (X1.out.next hb)
    have Y2 := Lib.hid (Y1.out.next hb)
    have B2 := Lib.hid (B1.out.trans (hb.mono B1.out.size)); have G2 := Lib.hid (G1.out.below hb)
    have W0x2 : Hid (Box w2 v0.heap.size A B) := by rw [← hw]; exact Box.new v0 A B
    clear hb hb0 a0 a1 b0 b1 hz
    have a0 := X2.out.c0; have a1 := X2.out.c1; have b0 := Y2.out.c0; have b1 := Y2.out.c1
    go_wp2_with fail
    try rw [hw]
    try clear hw
    refine ((D19.out _)).mono ?_
    rintro e v1 ⟨rfl, hb0⟩
    have hz := hb0.size
    obtain ⟨w3, hw⟩ : ∃ V : World, v1.alloc (.cells #[.int .i64 A, .int .i64 B] 23) = V := ⟨_, rfl⟩
    have hb : Below w2.heap.size w2 w3 := by rw [← hw]; exact hb0.alloc hz _
    have X3 := Lib.hid (X2.out.next hb)
    have Y3 := Lib.hid (Y2.out.next hb)
    have W0x3 := Lib.hid (W0x2.out.next hb)
    have B3 := Lib.hid (B2.out.trans (hb.mono B2.out.size)); have G3 := Lib.hid (G2.out.below hb)
    have W1x3 : Hid (Box w3 v1.heap.size A B) := by rw [← hw]; exact Box.new v1 A B
    clear hb hb0 a0 a1 b0 b1 hz
    have a0 := X3.out.c0; have a1 := X3.out.c1; have b0 := Y3.out.c0; have b1 := Y3.out.c1
    go_wp2_with fail
    try rw [hw]
    try clear hw
    refine ((Meet_any _ _ _ _ _)).mono ?_
    rintro e v2 ⟨rfl, hb0⟩
    rw [M1.out, M2.out, M3.out]
    have hz := hb0.size
    obtain ⟨w4, hw⟩ : ∃ V : World, v2.alloc (.cells #[.int .i64 MF, .int .i64 ML] 23) = V := ⟨_, rfl⟩
    have hb : Below w3.heap.size w3 w4 := by rw [← hw]; exact hb0.alloc hz _
    have X4 := Lib.hid (X3.out.next hb)
    have Y4 := Lib.hid (Y3.out.next hb)
    have W0x4 := Lib.hid (W0x3.out.next hb)
    have W1x4 := Lib.hid (W1x3.out.next hb)
    have B4 := Lib.hid (B3.out.trans (hb.mono B3.out.size)); have G4 := Lib.hid (G3.out.below hb)
    have W2x4 : Hid (Box w4 v2.heap.size MF ML) := by rw [← hw]; exact Box.new v2 MF ML
    clear hb hb0 a0 a1 b0 b1 hz
    have a0 := X4.out.c0; have a1 := X4.out.c1; have b0 := Y4.out.c0; have b1 := Y4.out.c1
    go_wp2_with fail
    try rw [hw]
    try clear hw
    refine ((refMeet_any _ _ _ _ _)).mono ?_
    rintro e v3 ⟨rfl, hb0⟩
    rw [M1.out, M2.out, M3.out]
    have hz := hb0.size
    obtain ⟨w5, hw⟩ : ∃ V : World, v3.alloc (.cells #[.int .i64 MF, .int .i64 ML] 23) = V := ⟨_, rfl⟩
    have hb : Below w4.heap.size w4 w5 := by rw [← hw]; exact hb0.alloc hz _
    have X5 := Lib.hid (X4.out.next hb)
    have Y5 := Lib.hid (Y4.out.next hb)
    have W0x5 := Lib.hid (W0x4.out.next hb)
    have W1x5 := Lib.hid (W1x4.out.next hb)
    have W2x5 := Lib.hid (W2x4.out.next hb)
    have B5 := Lib.hid (B4.out.trans (hb.mono B4.out.size)); have G5 := Lib.hid (G4.out.below hb)
    have W3x5 : Hid (Box w5 v3.heap.size MF ML) := by rw [← hw]; exact Box.new v3 MF ML
    clear hb hb0 a0 a1 b0 b1 hz
    have a0 := X5.out.c0; have a1 := X5.out.c1; have b0 := Y5.out.c0; have b1 := Y5.out.c1
    go_wp2_with fail
    try rw [hw]
    try clear hw
    refine ((D22.out _ G5.out)).mono ?_
    rintro e v4 ⟨rfl, hb0⟩
    have hz := hb0.size
    obtain ⟨w6, hw⟩ : ∃ V : World, v4.alloc (.cells #[.int .i64 HF, .int .i64 HL] 23) = V := ⟨_, rfl⟩
    have hb : Below w5.heap.size w5 w6 := by rw [← hw]; exact hb0.alloc hz _
    have X6 := Lib.hid (X5.out.next hb)
    have Y6 := Lib.hid (Y5.out.next hb)
    have W0x6 := Lib.hid (W0x5.out.next hb)
    have W1x6 := Lib.hid (W1x5.out.next hb)
    have W2x6 := Lib.hid (W2x5.out.next hb)
    have W3x6 := Lib.hid (W3x5.out.next hb)
    have B6 := Lib.hid (B5.out.trans (hb.mono B5.out.size)); have G6 := Lib.hid (G5.out.below hb)
    have W4x6 : Hid (Box w6 v4.heap.size HF HL) := by rw [← hw]; exact Box.new v4 HF HL
    clear hb hb0 a0 a1 b0 b1 hz
    have a0 := X6.out.c0; have a1 := X6.out.c1; have b0 := Y6.out.c0; have b1 := Y6.out.c1
    go_wp2_with fail
    try rw [hw]
    try clear hw
    refine ((D23.out _ G6.out)).mono ?_
    rintro e v5 ⟨rfl, hb0⟩
    have hz := hb0.size
    obtain ⟨w7, hw⟩ : ∃ V : World, v5.alloc (.cells #[.int .i64 HF, .int .i64 HL] 23) = V := ⟨_, rfl⟩
    have hb : Below w6.heap.size w6 w7 := by rw [← hw]; exact hb0.alloc hz _
    have X7 := Lib.hid (X6.out.next hb)
    have Y7 := Lib.hid (Y6.out.next hb)
    have W0x7 := Lib.hid (W0x6.out.next hb)
    have W1x7 := Lib.hid (W1x6.out.next hb)
    have W2x7 := Lib.hid (W2x6.out.next hb)
    have W3x7 := Lib.hid (W3x6.out.next hb)
    have W4x7 := Lib.hid (W4x6.out.next hb)
    have B7 := Lib.hid (B6.out.trans (hb.mono B6.out.size)); have G7 := Lib.hid (G6.out.below hb)
    have W5x7 : Hid (Box w7 v5.heap.size HF HL) := by rw [← hw]; exact Box.new v5 HF HL
    clear hb hb0 a0 a1 b0 b1 hz
    have e0 := W0x7.out.c0; have f0 := W0x7.out.c1
    have e1 := W1x7.out.c0; have f1 := W1x7.out.c1
    have e2 := W2x7.out.c0; have f2 := W2x7.out.c1
    have e3 := W3x7.out.c0; have f3 := W3x7.out.c1
    have e4 := W4x7.out.c0; have f4 := W4x7.out.c1
    have e5 := W5x7.out.c0; have f5 := W5x7.out.c1
    go_wp2
    go_ret
    exact ⟨rfl, B7.out⟩

theorem joins_any (a b c d k : Int) (p : Option Addr) (n cap : Nat) (F L : Nat → Int) (w : World) (hT : Table w) (hD : DatsAt w p n F L) :
    Calls Tryd.prog 4 #[.agg #[.int .i64 a, .int .i64 b], .agg #[.int .i64 c, .int .i64 d], .slice p n cap, .int .i64 k] w fun e w' => e = .returned (.bool true) ∧ Below w.heap.size w w' := by
  by_cases h : (40 < (n : Int) ∧ (n : Int) ≤ 1024) ∨ 1034 < (n : Int)
  · exact joins_skip a b c d k p n cap w hT h
  obtain ⟨A, B, E, y1, y2⟩ := years_both a b k
  obtain ⟨HF, HL, HE, z1, z2⟩ := hull_both p n cap F L (by omega)
  exact joins_in a b c d k A B E _ _ HF HL HE _ p n cap F L w hT (by omega) hD rfl rfl rfl y1 y2 z1 z2

set_option maxRecDepth 100000 in
theorem joins_lifted (os : Os) (started : os.Started) (H : Type) (enc : TypeId × Value → H) :
    ReturnsInHanded {} Tryd.checked os 4 .any (fun w args => (Rows.datingJoinsSpec.pre enc Tryd.prog Tryd.f4 [] false w args ∧ laidMetH Tryd.prog laid1 w) ∧ sizedMet enc Tryd.prog Tryd.f4 (OpenSpec.ofChange Rows.datingJoinsSpec) false w args)
      (Rows.datingJoinsSpec.post enc Tryd.prog Tryd.f4 false true false false) := by
  refine returnsInHanded_of_change_and (C := Tryd.checked) (X := fun w _ => laidMetH Tryd.prog laid1 w) (fun _ _ _ hh h => h.of_heap hh) own started (by kernel_rfl) Tryd.func4
    (ChangeSpec.witness_shaped (enc := enc) (C := Tryd.checked) (os := os) (X := fun w _ => laidMetH Tryd.prog laid1 w) false (World.doorLaid Tryd.prog 400 os) #[.agg #[.int .i64 0, .int .i64 0], .agg #[.int .i64 0, .int .i64 0], .slice none 0 0, .int .i64 0] 8 rfl (World.shaped_of_RefB (by kernel_rfl) (by kernel_rfl)) (by kernel_rfl) (by kernel_rfl) (by kernel_rfl) (door_met os _)) ?_
  intro W base args ds gs before hval0 hW _ _ hL _
  have hval : ∀ (j : Nat) t v, Tryd.f4.params[j]? = some t → args[j]? = some v → Value.okWide Tryd.prog W .any base t v := hval0
  have hW' := hW
  obtain ⟨p, q, hA0, hV, rfl, hfz, hnd⟩ := hW
  have hA : DataW.TrodAll enc Tryd.prog W 0 (fun _ => true) true Tryd.f4.params.toList args.toList ds p := hA0
  rw [Tryd.params4] at hA hval
  obtain ⟨v0, v1, v2, v3, d0, d1, d2, d3, p0, p1, p2, p3, rfl, rfl, rfl, h0, h1, h2, h3⟩ := trodAll_four hA
  obtain ⟨rfl, rfl⟩ := trodVars_none hV
  obtain ⟨a0, b0, rfl⟩ := open_dat (hval 0 23 v0 rfl rfl) h0
  obtain ⟨a1, b1, rfl⟩ := open_dat (hval 1 23 v1 rfl rfl) h1
  obtain ⟨A2, n2, c2, F2, L2, rfl, HG2⟩ := open_dats (hval 2 30 v2 rfl rfl) h2
  obtain ⟨x3, rfl, rfl, rfl, wx3⟩ := open_int Tryd.underlying3 (hval 3 3 v3 rfl rfl) h3
  refine (joins_any a0 b0 a1 b1 x3 A2 n2 c2 F2 L2 W (table_of_laid hL) HG2).mono fun e W' ⟨he, hb⟩ => ?_
  subst he
  exact ⟨_, rfl, post_true rfl rfl (by kernel_rfl) hW' rfl hb⟩

theorem joins_said : Rows.DatingJoinsSaid :=
  OpenClaim.holds_of_wide 4 Tryd.f4 rfl rfl rfl rfl rfl rfl rfl ⟨rfl, rfl, rfl, rfl, rfl⟩ rfl rfl rfl rfl rfl (by kernel_rfl) Tryd.func4 (by kernel_rfl)
    (of_decide_eq_true (by kernel_rfl)) (by unfold Func.isWrapper; first | (rw [if_pos (by decide +kernel)]; kernel_rfl) | (rw [if_neg (by decide +kernel)]; exact ⟨rfl, rfl⟩))
    (fun os started H enc _ => joins_lifted os started H enc)

theorem joins_holds : Rows.DatingJoinsCardSaid :=
  Claim7.holds_tied_plain_at .later [] [.data] true (true, "8d303af702edcfadd9ccb66646380e9714c2ac817b63d28ef925ba83bf977c3d") false
    joins_said (fun _ h => by cases h) (by kernel_rfl) (fun _ h => by cases h) datingJoins_row_tie rfl ⟨rfl, rfl⟩ (by kernel_rfl) rfl
    (fun f fn hf hfn => by
      obtain rfl : f = 4 := Option.some.inj ((show Tryd.prog.funcNamed "archivum/archivumlaw03.DatingJoins" = some 4 by kernel_rfl).symm.trans hf) |>.symm
      obtain rfl : fn = Tryd.f4 := (Option.some.inj (Tryd.func4.symm.trans hfn)).symm
      exact ⟨by kernel_rfl, fun j t ht => by
        rw [Tryd.params4] at ht
        have hm : t ∈ [23, 23, 30, 3] := by simpa using Array.mem_of_getElem? ht
        have hall : ([23, 23, 30, 3].all fun u => !Tryd.prog.wantsStandIn u) = true := by kernel_rfl
        exact (show Tryd.prog.wantsStandIn t = false by simpa using List.all_eq_true.1 hall t hm)⟩)
    (by kernel_rfl)
#print axioms joins_holds
end Go.Proofs.YtjpiaccpcmlfnaaDoor
