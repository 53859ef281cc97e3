/-
  PROVED HERE: the law archivumlaw04.TimelineDiffers answers true for every two lists of pieces and day: two timelines differ on a day exactly if a span of their changes has it; without changes they are equal; the spans do not touch one another. No condition. Every input is spoken of.
-/
import Derived.Test.YtcgjhbjbfdbfaaaCh
import Derived.Test.YtcgjhbjbfdbfaaaSa
namespace Go.Proofs.Ytcgjhbjbfdbfaaa
open Go.ChangeShapes Go.WideShapes Go.ChangeAt Go.RowKit Go.Joins

set_option maxRecDepth 100000 in
theorem pcs_cap {H : Type} {enc : TypeId × Value → H} {W : World} {a : Option Addr} {n cap : Nat} {d : DataW H} {p : List MemPlace} (h : DataW.Trod enc Try.prog W 0 (fun _ => true) true 22 (.slice a n cap) d p) : n ≤ cap := by
  obtain ⟨fuel, hf⟩ := h
  rcases Go.Deep.open_slice Try.underlying22 hf with ⟨h0, _⟩ | ⟨a', ln, cp, m, k, D, Pl, hcs, _, hl, _⟩
  · simp [Value.cells] at h0
    omega
  · simp [Value.cells] at hcs
    omega

theorem has_res {n : Nat} {F U V : Nat → Int} (hW : Wk n F U) (d : Int) : ∃ A O, AtRes n F U V d A O := by
  rcases has_first (V := V) hW d with ⟨m, m1, m2, m3, m4⟩ | ⟨m2, m4⟩
  · exact ⟨V m, true, Or.inl ⟨rfl, (m4 _).2 rfl⟩⟩
  · exact ⟨0, false, Or.inr ⟨rfl, rfl, m4⟩⟩

set_option maxRecDepth 100000 in
set_option maxHeartbeats 4000000 in
theorem Same_ne (p q : Option Addr) (n cap m cap' : Nat) (F U V F' U' V' : Nat → Int) (w : World) (hP : PcsAt w p n F U V) (hQ : PcsAt w q m F' U' V') (hn : (n : Int) ≤ 2000) (hm : (m : Int) ≤ 2000) (he : ¬ (n = m ∧ ∀ i, i < n → F i = F' i ∧ U i = U' i ∧ V i = V' i)) :
    Calls Try.prog 24 #[.slice p n cap, .slice q m cap'] w fun e w' => e = .returned (.bool false) ∧ Below w.heap.size w w' := by
  by_cases hnm : n = m
  case neg =>
    have e1 : ((n : Int) == (m : Int)) = false := bool_ne (by omega)
    clear hP hQ he hnm
    go_enter Try.func24, Try.ntmps24
    go_wp2
    go_ret
    exact ⟨rfl, by go_grown⟩
  subst hnm
  obtain ⟨r, r1, r2, r3⟩ := first_bad (fun i => F i = F' i ∧ U i = U' i ∧ V i = V' i) n
  have hr : r < n := by
    apply Classical.byContradiction
    intro g
    exact he ⟨rfl, fun i hi => r2 i (by omega)⟩
  have hbad := r3.resolve_left (by omega)
  have HP := Lib.hid hP; have HQ := Lib.hid hQ; have R2 := Lib.hid r2; have HBAD := Lib.hid hbad
  clear hP hQ he r2 r3 hbad
  go_enter Try.func24, Try.ntmps24
  go_wp2
  go_loopw [5] (fun i wr => ∃ k : Nat, k ≤ r ∧ i = .int .i64 k ∧ Below w.heap.size w wr) (fun i _ => n - (intOf i).toNat)
  case atStart => exact ⟨0, Nat.zero_le _, rfl, by go_grown⟩
  case round =>
    obtain ⟨k, hk, rfl, hb⟩ := hrel
    have NB := Lib.hid hb
    have hkn : k < n := by omega
    obtain ⟨blk, off, rfl, hpc⟩ := HP.out.get hkn
    obtain ⟨blk2, off2, rfl, hpc2⟩ := HQ.out.get hkn
    have PW := Lib.hid (hpc.below hb hpc.lt)
    have QW := Lib.hid (hpc2.below hb hpc2.lt)
    have hkd : decide ((k : Int) < (n : Int)) = true := by simp; omega
    have hkz : (k : Int) < (n : Int) := by omega
    have zb := PW.out.lt; have zb2 := QW.out.lt
    clear hb hpc hpc2
    by_cases hkr : k < r
    · have h := R2.out k hkr
      rw [← h.1, ← h.2.1, ← h.2.2] at QW
      have q0 := PW.out.1; have q1 := PW.out.2.1; have q2 := PW.out.2.2
      have r0 := QW.out.1; have r1 := QW.out.2.1; have r2 := QW.out.2.2
      clear h
      go_wp2_with fail
      go_quiet (fail)
      go_wp2_with fail
      go_roundw
      case rel => exact ⟨k + 1, by omega, by go_num, below_drewN NB.out nq⟩
      case measure => simp [intOf]; omega
    · obtain rfl : k = r := by omega
      have q0 := PW.out.1; have q1 := PW.out.2.1; have q2 := PW.out.2.2
      have r0 := QW.out.1; have r1 := QW.out.2.1; have r2 := QW.out.2.2
      by_cases e1 : F k = F' k
      · by_cases e2 : U k = U' k
        · have e3 : ¬ V k = V' k := fun h => HBAD.out ⟨e1, e2, h⟩
          rw [← e1] at r0
          rw [← e2] at r1
          have d3 : (V k == V' k) = false := bool_ne e3
          clear e1 e2 e3
          go_wp2_with fail
          go_quiet (fail)
          go_wp2_with fail
          go_ret
          exact ⟨rfl, below_drewN NB.out nq⟩
        · rw [← e1] at r0
          have d2 : (U k == U' k) = false := bool_ne e2
          clear e1 e2
          go_wp2_with fail
          go_quiet (fail)
          go_wp2_with fail
          go_ret
          exact ⟨rfl, below_drewN NB.out nq⟩
      · have d1 : (F k == F' k) = false := bool_ne e1
        clear e1
        go_wp2_with fail
        go_quiet (fail)
        go_wp2_with fail
        go_ret
        exact ⟨rfl, below_drewN NB.out nq⟩

/-- Same at two lists in order: whether they have the same values. -/
theorem Same_any (p q : Option Addr) (n cap m cap' : Nat) (F U V F' U' V' : Nat → Int) (S : Bool) (w : World) (hP : PcsAt w p n F U V) (hQ : PcsAt w q m F' U' V') (hn : (n : Int) ≤ 2000) (hm : (m : Int) ≤ 2000) (hT : Tl n F U V) (hT2 : Tl m F' U' V') (hS : S = true ↔ ∀ d x, Has n F U V d x ↔ Has m F' U' V' d x) :
    Calls Try.prog 24 #[.slice p n cap, .slice q m cap'] w fun e w' => e = .returned (.bool S) ∧ Below w.heap.size w w' := by
  by_cases h : n = m ∧ ∀ i, i < n → F i = F' i ∧ U i = U' i ∧ V i = V' i
  · obtain ⟨rfl, he⟩ := h
    have h1 : S = true := hS.2 (fun d x => by
      constructor
      · rintro ⟨i, i1, i2, i3, i4⟩
        obtain ⟨a, b, c⟩ := he i i1
        exact ⟨i, i1, by omega, by omega, by omega⟩
      · rintro ⟨i, i1, i2, i3, i4⟩
        obtain ⟨a, b, c⟩ := he i i1
        exact ⟨i, i1, by omega, by omega, by omega⟩)
    rw [h1]
    exact Same_eq p q n cap cap' F U V F' U' V' w hP hQ hn he
  · have h1 : S = false := by
      cases hs : S with
      | false => rfl
      | true => exact absurd (hT.unique hT2 (hS.1 hs)) h
    rw [h1]
    exact Same_ne p q n cap m cap' F U V F' U' V' w hP hQ hn hm h

set_option maxHeartbeats 4000000 in
theorem partsOf_bad (p : Option Addr) (n cap : Nat) (F U V : Nat → Int) (q : Option Addr) (m capq : Nat) (G H I : Nat → Int) (E1 E2 X : Int) (w : World) (hP : PcsAt w p n F U V) (hQ : PcsAt w q m G H I) (C1 : ChecksTo 16 p n cap F U V E1) (C2 : ChecksTo 16 q m capq G H I E2) (hX : (E1 ≠ 0 ∧ X = E1) ∨ (E1 = 0 ∧ E2 ≠ 0 ∧ X = E2)) :
    Calls Try.prog 40 #[.slice p n cap, .slice q m capq] w fun e w' => e = .returned (.tuple #[.slice none 0 0, .int .i64 X]) ∧ Below w.heap.size w w' := by
  have HP := Lib.hid hP; have HQ := Lib.hid hQ; have D1 := Lib.hid C1; have D2 := Lib.hid C2
  clear hP hQ C1 C2
  rcases hX with ⟨h, rfl⟩ | ⟨rfl, h, rfl⟩
  · have hx : (X != 0) = true := by simpa using h
    clear h
    go_enter Try.func40, Try.ntmps40
    go_wp2_with fail
    refine (D1.out _ HP.out).mono ?_
    rintro e w1 ⟨rfl, hb⟩
    go_wp2_with fail
    go_ret2
    exact ⟨rfl, hb⟩
  · have hx : (X != 0) = true := by simpa using h
    clear h
    go_enter Try.func40, Try.ntmps40
    go_wp2_with fail
    refine (D1.out _ HP.out).mono ?_
    rintro e w1 ⟨rfl, hb⟩
    have Q1 := Lib.hid (HQ.out.below hb); have B1 := Lib.hid hb
    clear hb
    go_wp2_with fail
    refine (D2.out _ Q1.out).mono ?_
    rintro e w2 ⟨rfl, hb⟩
    have B2 := Lib.hid (B1.out.trans (hb.mono B1.out.size))
    clear hb
    go_wp2_with fail
    go_ret2
    exact ⟨rfl, B2.out⟩
set_option maxHeartbeats 4000000 in
theorem Changes_bad (p : Option Addr) (n cap : Nat) (F U V : Nat → Int) (q : Option Addr) (m capq : Nat) (G H I : Nat → Int) (E1 E2 X : Int) (w : World) (hP : PcsAt w p n F U V) (hQ : PcsAt w q m G H I) (C1 : ChecksTo 16 p n cap F U V E1) (C2 : ChecksTo 16 q m capq G H I E2) (hX : (E1 ≠ 0 ∧ X = E1) ∨ (E1 = 0 ∧ E2 ≠ 0 ∧ X = E2)) :
    Calls Try.prog 25 #[.slice p n cap, .slice q m capq] w fun e w' => e = .returned (.tuple #[.slice none 0 0, .int .i64 X]) ∧ Below w.heap.size w w' := by
  have D := Lib.hid (partsOf_bad p n cap F U V q m capq G H I E1 E2 X w hP hQ C1 C2 hX)
  have hx : (X != 0) = true := by
    rcases hX with h | h
    · rw [h.2]; simpa using h.1
    · rw [h.2.2]; simpa using h.2.1
  clear hP hQ C1 C2 hX
  go_enter Try.func25, Try.ntmps25
  go_wp2_with fail
  refine D.out.mono ?_
  rintro e w1 ⟨rfl, hb⟩
  go_wp2_with fail
  go_ret2
  exact ⟨rfl, hb⟩
set_option maxHeartbeats 4000000 in
theorem Over_bad (p : Option Addr) (n cap : Nat) (F U V : Nat → Int) (q : Option Addr) (m capq : Nat) (G H I : Nat → Int) (E1 E2 X : Int) (w : World) (hP : PcsAt w p n F U V) (hQ : PcsAt w q m G H I) (C1 : ChecksTo 16 p n cap F U V E1) (C2 : ChecksTo 16 q m capq G H I E2) (hX : (E1 ≠ 0 ∧ X = E1) ∨ (E1 = 0 ∧ E2 ≠ 0 ∧ X = E2)) :
    Calls Try.prog 27 #[.slice p n cap, .slice q m capq] w fun e w' => e = .returned (.tuple #[.slice none 0 0, .int .i64 X]) ∧ Below w.heap.size w w' := by
  have D := Lib.hid (partsOf_bad p n cap F U V q m capq G H I E1 E2 X w hP hQ C1 C2 hX)
  have hx : (X != 0) = true := by
    rcases hX with h | h
    · rw [h.2]; simpa using h.1
    · rw [h.2.2]; simpa using h.2.1
  clear hP hQ C1 C2 hX
  go_enter Try.func27, Try.ntmps27
  go_wp2_with fail
  refine D.out.mono ?_
  rintro e w1 ⟨rfl, hb⟩
  go_wp2_with fail
  go_ret2
  exact ⟨rfl, hb⟩

/-- Spans in memory. -/
def SpansIn (w : World) (p : Option Addr) (n : Nat) (F U : Nat → Int) : Prop := n = 0 ∨ ∃ g, p = some ⟨g, 0, none⟩ ∧ ∀ i, i < n → w.cell? ⟨g, i * 2, none⟩ = some (.int .i64 (F i)) ∧ w.cell? ⟨g, i * 2 + 1, none⟩ = some (.int .i64 (U i))
theorem spans_in {w : World} {B : Nat} {v : Value} {n : Nat} {xs : List Value} {F U : Nat → Int} (h : w.ownsRow B 33 2 v n xs) (hx : SpanCells xs n F U) : ∃ p c, v = .slice p n c ∧ SpansIn w p n F U := by
  rcases h.2 with ⟨rfl, rfl⟩ | ⟨g, c, cur, rfl, _⟩
  · exact ⟨none, 0, rfl, Or.inl rfl⟩
  · refine ⟨_, c, rfl, Or.inr ⟨g, rfl, fun i hi => ?_⟩⟩
    have h1 := h.cells rfl (i * 2) _ (hx.2 i hi).1
    have h2 := h.cells rfl (i * 2 + 1) _ (hx.2 i hi).2
    rw [Addr.add_lit, Nat.zero_add] at h1 h2
    exact ⟨h1, h2⟩
theorem SpansIn.next {w w' : World} {p : Option Addr} {n : Nat} {F U : Nat → Int} (h : SpansIn w p n F U) (hb : Below w.heap.size w w') : SpansIn w' p n F U := by
  rcases h with h | ⟨g, hp, h⟩
  · exact Or.inl h
  · refine Or.inr ⟨g, hp, fun i hi => ?_⟩
    have key : ∀ j u, w.cell? ⟨g, j, none⟩ = some u → w'.cell? ⟨g, j, none⟩ = some u := fun j u hu => (hb.cell (p := ⟨g, j, none⟩) (World.block_lt_of_cell? w _ hu)).trans hu
    exact ⟨key _ _ (h i hi).1, key _ _ (h i hi).2⟩
theorem AtRes.has {n m : Nat} {F U V G H I : Nat → Int} {d A : Int} {O : Bool} (hW : Wk n F U) (hW2 : Wk m G H) (h : AtRes n F U V d A O) (h2 : AtRes m G H I d A O) (x : Int) : Has n F U V d x ↔ Has m G H I d x := by
  rcases h with ⟨rfl, h⟩ | ⟨rfl, rfl, h⟩
  · rcases h2 with ⟨_, h2⟩ | ⟨h2, _, _⟩
    · constructor
      · intro g; rw [g.fn hW h]; exact h2
      · intro g; rw [g.fn hW2 h2]; exact h
    · cases h2
  · rcases h2 with ⟨h2, _⟩ | ⟨_, _, h2⟩
    · cases h2
    · exact ⟨fun g => absurd g (h x), fun g => absurd g (h2 x)⟩
theorem no_changes {n m n3 : Nat} {F U V G H I F3 U3 : Nat → Int} {va vb : Int → Int} {oa ob : Int → Bool} (hW : Wk n F U) (hW2 : Wk m G H) (ha : ∀ d, AtRes n F U V d (va d) (oa d)) (hb : ∀ d, AtRes m G H I d (vb d) (ob d)) (h : Changes va vb oa ob n3 F3 U3) :
    n3 = 0 ↔ ∀ d x, Has n F U V d x ↔ Has m G H I d x := by
  constructor
  · rintro rfl d x
    have hd : va d = vb d ∧ oa d = ob d := Classical.not_not.1 (fun g => by
      obtain ⟨i, hi, _⟩ := (h.2.2 d).2 g
      omega)
    have h2 := hb d
    rw [← hd.1, ← hd.2] at h2
    exact AtRes.has hW hW2 (ha d) h2 x
  · intro g
    apply Classical.byContradiction
    intro h0
    have h1 := h.1 0 (by omega)
    have h2 := (h.2.2 (F3 0)).1 ⟨0, by omega, Int.le_refl _, h1.2.1⟩
    have h3 := AtRes.same hW (ha (F3 0)) (hb (F3 0)) (fun x => (g (F3 0) x).symm)
    exact h2 ⟨h3.1.symm, h3.2.symm⟩

set_option maxRecDepth 100000 in
set_option maxHeartbeats 4000000 in
theorem differs_large (p : Option Addr) (n cap : Nat) (q : Option Addr) (m capq : Nat) (d : Int) (w : World) (hn : 40 < n ∨ 40 < m) :
    Calls Try.prog 8 #[.slice p n cap, .slice q m capq, .int .i64 d] w fun e w' => e = .returned (.bool true) ∧ Below w.heap.size w w' := by
  by_cases h1 : 40 < n
  · have hk : (40 : Int) < (n : Int) := by omega
    clear hn h1
    go_enter Try.func8, Try.ntmps8
    go_wp2_with fail
    refine (awake_true _).mono ?_
    rintro e1 w1 ⟨rfl, hb⟩
    go_wp2_with fail
    go_ret
    exact ⟨rfl, hb⟩
  · have hk : (n : Int) ≤ 40 := by omega
    have hk2 : (40 : Int) < (m : Int) := by omega
    clear hn h1
    go_enter Try.func8, Try.ntmps8
    go_wp2_with fail
    refine (awake_true _).mono ?_
    rintro e1 w1 ⟨rfl, hb⟩
    go_wp2_with fail
    go_ret
    exact ⟨rfl, hb⟩

set_option maxRecDepth 100000 in
set_option maxHeartbeats 4000000 in
theorem differs_bad (p : Option Addr) (n cap : Nat) (F U V : Nat → Int) (q : Option Addr) (m capq : Nat) (G H I : Nat → Int) (d E1 E2 X : Int) (w : World) (hP : PcsAt w p n F U V) (hQ : PcsAt w q m G H I) (hn : n ≤ 40) (hm : m ≤ 40) (C1 : ChecksTo 16 p n cap F U V E1) (C2 : ChecksTo 16 q m capq G H I E2) (hX : (E1 ≠ 0 ∧ X = E1) ∨ (E1 = 0 ∧ E2 ≠ 0 ∧ X = E2)) :
    Calls Try.prog 8 #[.slice p n cap, .slice q m capq, .int .i64 d] w fun e w' => e = .returned (.bool true) ∧ Below w.heap.size w w' := by
  have hk : (n : Int) ≤ 40 := by omega
  have hk2 : (m : Int) ≤ 40 := by omega
  have D := Lib.hid (fun w hP hQ => Changes_bad p n cap F U V q m capq G H I E1 E2 X w hP hQ C1 C2 hX)
  have hx : (X != 0) = true := by
    rcases hX with h | h
    · rw [h.2]; simpa using h.1
    · rw [h.2.2]; simpa using h.2.1
  have P0 := Lib.hid hP; have Q0 := Lib.hid hQ
  clear hP hQ C1 C2 hX
  go_enter Try.func8, Try.ntmps8
  go_wp2_with fail
  refine (awake_true _).mono ?_
  rintro e1 w1 ⟨rfl, hb⟩
  have P1 := Lib.hid (P0.out.below hb); have Q1 := Lib.hid (Q0.out.below hb); have B1 := Lib.hid hb
  clear hb
  go_wp2_with fail
  refine (D.out _ P1.out Q1.out).mono ?_
  rintro e1 w2 ⟨rfl, hb⟩
  have B2 := Lib.hid (B1.out.trans (hb.mono B1.out.size))
  clear hb
  go_wp2_with fail
  go_ret
  exact ⟨rfl, B2.out⟩

set_option maxRecDepth 100000 in
set_option maxHeartbeats 16000000 in
theorem differs_ok (p : Option Addr) (n cap : Nat) (F U V : Nat → Int) (q : Option Addr) (m capq : Nat) (G H I : Nat → Int) (d : Int) (w : World) (hP : PcsAt w p n F U V) (hQ : PcsAt w q m G H I) (hcp : n ≤ cap) (hcq : m ≤ capq) (hn : n ≤ 40) (hm : m ≤ 40) (hT : Tl n F U V) (hT2 : Tl m G H I) :
    Calls Try.prog 8 #[.slice p n cap, .slice q m capq, .int .i64 d] w fun e w' => e = .returned (.bool true) ∧ Below w.heap.size w w' := by
  have hk : (n : Int) ≤ 40 := by omega
  have hk2 : (m : Int) ≤ 40 := by omega
  obtain ⟨va, oa, ha⟩ : ∃ (va : Int → Int) (oa : Int → Bool), ∀ d, AtRes n F U V d (va d) (oa d) :=
    ⟨fun d => (has_res (V := V) hT.1 d).choose, fun d => (has_res (V := V) hT.1 d).choose_spec.choose, fun d => (has_res (V := V) hT.1 d).choose_spec.choose_spec⟩
  obtain ⟨vb, ob, hb0⟩ : ∃ (vb : Int → Int) (ob : Int → Bool), ∀ d, AtRes m G H I d (vb d) (ob d) :=
    ⟨fun d => (has_res (V := I) hT2.1 d).choose, fun d => (has_res (V := I) hT2.1 d).choose_spec.choose, fun d => (has_res (V := I) hT2.1 d).choose_spec.choose_spec⟩
  have P0 := Lib.hid hP; have Q0 := Lib.hid hQ; have T1 := Lib.hid hT; have T2 := Lib.hid hT2; have HA := Lib.hid ha; have HB := Lib.hid hb0
  clear hP hQ hT hT2 ha hb0
  go_enter Try.func8, Try.ntmps8
  go_wp2_with fail
  refine (awake_true _).mono ?_
  rintro e1 w1 ⟨rfl, hb⟩
  have P1 := Lib.hid (P0.out.below hb); have Q1 := Lib.hid (Q0.out.below hb); have B1 := Lib.hid hb
  clear hb P0 Q0
  go_wp2_with fail
  refine (changes_ok p n cap F U V q m capq G H I va oa vb ob _ P1.out Q1.out hcp hcq (by omega) T1.out T2.out HA.out HB.out).mono ?_
  rintro e1 w2 ⟨v, n3, F3, U3, xs, rfl, hown, hsc, hCh, h10, hb⟩
  obtain ⟨ps, cs, rfl, hsp⟩ := spans_in hown hsc
  have P2 := Lib.hid (P1.out.below hb); have Q2 := Lib.hid (Q1.out.below hb); have B2 := Lib.hid (B1.out.trans (hb.mono B1.out.size))
  have S2 := Lib.hid hsp; have CH := Lib.hid hCh
  clear hb P1 Q1 B1 hown hsc hCh hsp
  go_wp2_with fail
  refine (At_any p n cap F U V d _ P2.out (by omega) T1.out.1).mono ?_
  rintro e1 w3 ⟨a1, o1, rfl, hb, h1⟩
  obtain ⟨rfl, rfl⟩ : a1 = va d ∧ o1 = oa d := AtRes.same T1.out.1 (HA.out d) h1 (fun x => Iff.rfl)
  have P3 := Lib.hid (P2.out.below hb); have Q3 := Lib.hid (Q2.out.below hb); have B3 := Lib.hid (B2.out.trans (hb.mono B2.out.size)); have S3 := Lib.hid (S2.out.next hb)
  clear hb P2 Q2 B2 S2 h1
  go_wp2_with fail
  refine (At_any q m capq G H I d _ Q3.out (by omega) T2.out.1).mono ?_
  rintro e1 w4 ⟨a2, o2, rfl, hb, h2⟩
  obtain ⟨rfl, rfl⟩ : a2 = vb d ∧ o2 = ob d := AtRes.same T2.out.1 (HB.out d) h2 (fun x => Iff.rfl)
  have P4 := Lib.hid (P3.out.below hb); have Q4 := Lib.hid (Q3.out.below hb); have B4 := Lib.hid (B3.out.trans (hb.mono B3.out.size)); have S4 := Lib.hid (S3.out.next hb)
  clear hb P3 Q3 B3 S3 h2
  have ND : Hid (n3 = 0 ↔ ∀ d x, Has n F U V d x ↔ Has m G H I d x) := no_changes T1.out.1 T2.out.1 HA.out HB.out CH.out
  have DD : Hid ((∃ i, i < n3 ∧ F3 i ≤ d ∧ d < U3 i) ↔ ¬ (va d = vb d ∧ oa d = ob d)) := CH.out.2.2 d
  obtain ⟨a1, ha1⟩ : ∃ x, x = va d := ⟨_, rfl⟩
  obtain ⟨a2, ha2⟩ : ∃ x, x = vb d := ⟨_, rfl⟩
  obtain ⟨o1, ho1⟩ : ∃ x, x = oa d := ⟨_, rfl⟩
  obtain ⟨o2, ho2⟩ : ∃ x, x = ob d := ⟨_, rfl⟩
  rw [← ha1, ← ha2, ← ho1, ← ho2] at DD ⊢
  clear ha1 ha2 ho1 ho2
  go_wp2_with fail
  go_loopw [51, 13] (fun i f wr => ∃ (k : Nat) (b : Bool), k ≤ n3 ∧ i = .int .i64 k ∧ f = .bool b ∧ (b = true ↔ ∃ i, i < k ∧ F3 i ≤ d ∧ d < U3 i) ∧ Below w4.heap.size w4 wr) (fun i _ _ => n3 - (intOf i).toNat)
  case atStart => exact ⟨0, false, Nat.zero_le _, rfl, rfl, ⟨fun h => (by cases h), fun ⟨i, hi, _⟩ => absurd hi (by omega)⟩, Below.refl _ _⟩
  case round =>
    obtain ⟨k, b, hkn3, rfl, rfl, hbb, hb⟩ := hrel
    have NB := Lib.hid hb; have HBB := Lib.hid hbb; have S5 := Lib.hid (S4.out.next hb)
    clear hb hbb
    by_cases hkn : k < n3
    · obtain ⟨g, rfl, hc⟩ : ∃ g, ps = some ⟨g, 0, none⟩ ∧ ∀ i, i < n3 → wr.cell? ⟨g, i * 2, none⟩ = some (.int .i64 (F3 i)) ∧ wr.cell? ⟨g, i * 2 + 1, none⟩ = some (.int .i64 (U3 i)) := by
        rcases S5.out with h | h
        · omega
        · exact h
      have c0 := (hc k hkn).1; have c1 := (hc k hkn).2
      have zb := World.block_lt_of_cell? wr _ c0
      have hkd : decide ((k : Int) < (n3 : Int)) = true := by simp; omega
      have hkz : (k : Int) < (n3 : Int) := by omega
      have sp := CH.out.1 k hkn
      have g1 : decide (F3 k < 0) = false := decide_eq_false (by omega)
      have g2 : decide (U3 k ≤ F3 k) = false := decide_eq_false (by omega)
      have g3 : decide ((1048576 : Int) < U3 k) = false := decide_eq_false (by omega)
      have BX : Hid (Below w4.heap.size w4 (wr.alloc (.cells #[.int .i64 (F3 k), .int .i64 (U3 k)] 33))) := NB.out.alloc NB.out.size _
      clear sp
      rcases Nat.eq_zero_or_pos k with k0 | k0
      · subst k0
        clear hc
        cases b
        · rcases (show d < F3 0 ∨ (F3 0 ≤ d ∧ d < U3 0) ∨ (F3 0 ≤ d ∧ U3 0 ≤ d) by omega) with z | ⟨z1, z2⟩ | ⟨z1, z2⟩
          · go_wp2_with fail
            go_quiet (fail)
            go_wp2_with fail
            go_roundw
            case rel => exact ⟨0 + 1, false, by omega, by go_num, (by first | rfl | (simp; omega)), ⟨fun h => (by cases h), fun ⟨i, i1, i2⟩ => (by
              rcases (show i < 0 ∨ i = 0 by omega) with c | c
              · exact HBB.out.2 ⟨i, c, i2⟩
              · subst c; omega)⟩, below_drewN BX.out nq⟩
            case measure => simp [intOf]; omega
          · go_wp2_with fail
            go_quiet (fail)
            go_wp2_with fail
            go_roundw
            case rel => exact ⟨0 + 1, true, by omega, by go_num, rfl, ⟨fun _ => ⟨0, by omega, z1, z2⟩, fun _ => rfl⟩, below_drewN BX.out nq⟩
            case measure => simp [intOf]; omega
          · go_wp2_with fail
            go_quiet (fail)
            go_wp2_with fail
            go_roundw
            case rel => exact ⟨0 + 1, false, by omega, by go_num, (by first | rfl | (simp; omega)), ⟨fun h => (by cases h), fun ⟨i, i1, i2⟩ => (by
              rcases (show i < 0 ∨ i = 0 by omega) with c | c
              · exact HBB.out.2 ⟨i, c, i2⟩
              · subst c; omega)⟩, below_drewN BX.out nq⟩
            case measure => simp [intOf]; omega
        · go_wp2_with fail
          go_quiet (fail)
          go_wp2_with fail
          go_roundw
          case rel => exact ⟨0 + 1, true, by omega, by go_num, rfl, ⟨fun _ => (by
            obtain ⟨i, i1, i2⟩ := HBB.out.1 (by first | rfl | trivial)
            exact ⟨i, by omega, i2⟩), fun _ => rfl⟩, below_drewN BX.out nq⟩
          case measure => simp [intOf]; omega
      · have c2 := (hc (k - 1) (by omega)).2
        have g4 : decide (F3 k ≤ U3 (k - 1)) = false := decide_eq_false (by have := CH.out.2.1 (k - 1) (by omega); rw [show k - 1 + 1 = k by omega] at this; omega)
        have hj0 : decide ((0 : Int) < (k : Int)) = true := by simp; omega
        have hj1 : (0 : Int) ≤ (k : Int) - 1 := by omega
        have hj2 : (k : Int) - 1 < (n3 : Int) := by omega
        have hj3 : ((k : Int) - 1).toNat = k - 1 := by omega
        have hj4 : IntKind.i64.wrap ((k : Int) - 1) = (k : Int) - 1 := IntWalk.i64_in _ (by omega)
        have hj5 : (1 : Int) ≤ (k : Int) := by omega
        clear hc
        cases b
        · rcases (show d < F3 k ∨ (F3 k ≤ d ∧ d < U3 k) ∨ (F3 k ≤ d ∧ U3 k ≤ d) by omega) with z | ⟨z1, z2⟩ | ⟨z1, z2⟩
          · go_wp2_with fail
            go_quiet (fail)
            go_wp2_with fail
            go_roundw
            case rel => exact ⟨k + 1, false, by omega, by go_num, (by first | rfl | (simp; omega)), ⟨fun h => (by cases h), fun ⟨i, i1, i2⟩ => (by
              rcases (show i < k ∨ i = k by omega) with c | c
              · exact HBB.out.2 ⟨i, c, i2⟩
              · subst c; omega)⟩, below_drewN BX.out nq⟩
            case measure => simp [intOf]; omega
          · go_wp2_with fail
            go_quiet (fail)
            go_wp2_with fail
            go_roundw
            case rel => exact ⟨k + 1, true, by omega, by go_num, rfl, ⟨fun _ => ⟨k, by omega, z1, z2⟩, fun _ => rfl⟩, below_drewN BX.out nq⟩
            case measure => simp [intOf]; omega
          · go_wp2_with fail
            go_quiet (fail)
            go_wp2_with fail
            go_roundw
            case rel => exact ⟨k + 1, false, by omega, by go_num, (by first | rfl | (simp; omega)), ⟨fun h => (by cases h), fun ⟨i, i1, i2⟩ => (by
              rcases (show i < k ∨ i = k by omega) with c | c
              · exact HBB.out.2 ⟨i, c, i2⟩
              · subst c; omega)⟩, below_drewN BX.out nq⟩
            case measure => simp [intOf]; omega
        · go_wp2_with fail
          go_quiet (fail)
          go_wp2_with fail
          go_roundw
          case rel => exact ⟨k + 1, true, by omega, by go_num, rfl, ⟨fun _ => (by
            obtain ⟨i, i1, i2⟩ := HBB.out.1 (by first | rfl | trivial)
            exact ⟨i, by omega, i2⟩), fun _ => rfl⟩, below_drewN BX.out nq⟩
          case measure => simp [intOf]; omega
    · have hkd : decide ((k : Int) < (n3 : Int)) = false := by simp; omega
      obtain rfl : k = n3 := by omega
      have P9 := Lib.hid (P4.out.below NB.out); have Q9 := Lib.hid (Q4.out.below NB.out); have B9 := Lib.hid (B4.out.trans (NB.out.mono B4.out.size))
      have BD : Hid (b = true ↔ ¬ (a1 = a2 ∧ o1 = o2)) := HBB.out.trans DD.out
      obtain ⟨S, hS⟩ : ∃ S : Bool, S = true ↔ k = 0 := ⟨decide (k = 0), by simp⟩
      have CS := Lib.hid (Same_any p q n cap m capq F U V G H I S _ P9.out Q9.out (by omega) (by omega) T1.out T2.out (hS.trans ND.out))
      have HS := Lib.hid hS
      clear hS
      by_cases he : a1 = a2
      · subst he
        cases o1 <;> cases o2
        · have BV : b = false := by
            cases hb9 : b
            · rfl
            · exact absurd ⟨rfl, rfl⟩ (BD.out.1 hb9)
          obtain rfl : b = false := BV
          rcases Nat.eq_zero_or_pos k with k0 | k0
          · obtain rfl : S = true := HS.out.2 k0
            have hz : ((k : Int) == 0) = true := bool_eq (by omega)
            go_wp2_with fail
            refine CS.out.mono ?_
            rintro e1 w9 ⟨rfl, hb⟩
            go_wp2_with fail
            go_ret
            exact ⟨rfl, B9.out.trans (hb.mono B9.out.size)⟩
          · obtain rfl : S = false := by
              cases S
              · rfl
              · have := HS.out.1 rfl; omega
            have hz : ((k : Int) == 0) = false := bool_ne (by omega)
            go_wp2_with fail
            refine CS.out.mono ?_
            rintro e1 w9 ⟨rfl, hb⟩
            go_wp2_with fail
            go_ret
            exact ⟨rfl, B9.out.trans (hb.mono B9.out.size)⟩
        · have BV : b = true := BD.out.2 (fun h => by cases h.2)
          obtain rfl : b = true := BV
          rcases Nat.eq_zero_or_pos k with k0 | k0
          · obtain rfl : S = true := HS.out.2 k0
            have hz : ((k : Int) == 0) = true := bool_eq (by omega)
            go_wp2_with fail
            refine CS.out.mono ?_
            rintro e1 w9 ⟨rfl, hb⟩
            go_wp2_with fail
            go_ret
            exact ⟨rfl, B9.out.trans (hb.mono B9.out.size)⟩
          · obtain rfl : S = false := by
              cases S
              · rfl
              · have := HS.out.1 rfl; omega
            have hz : ((k : Int) == 0) = false := bool_ne (by omega)
            go_wp2_with fail
            refine CS.out.mono ?_
            rintro e1 w9 ⟨rfl, hb⟩
            go_wp2_with fail
            go_ret
            exact ⟨rfl, B9.out.trans (hb.mono B9.out.size)⟩
        · have BV : b = true := BD.out.2 (fun h => by cases h.2)
          obtain rfl : b = true := BV
          rcases Nat.eq_zero_or_pos k with k0 | k0
          · obtain rfl : S = true := HS.out.2 k0
            have hz : ((k : Int) == 0) = true := bool_eq (by omega)
            go_wp2_with fail
            refine CS.out.mono ?_
            rintro e1 w9 ⟨rfl, hb⟩
            go_wp2_with fail
            go_ret
            exact ⟨rfl, B9.out.trans (hb.mono B9.out.size)⟩
          · obtain rfl : S = false := by
              cases S
              · rfl
              · have := HS.out.1 rfl; omega
            have hz : ((k : Int) == 0) = false := bool_ne (by omega)
            go_wp2_with fail
            refine CS.out.mono ?_
            rintro e1 w9 ⟨rfl, hb⟩
            go_wp2_with fail
            go_ret
            exact ⟨rfl, B9.out.trans (hb.mono B9.out.size)⟩
        · have BV : b = false := by
            cases hb9 : b
            · rfl
            · exact absurd ⟨rfl, rfl⟩ (BD.out.1 hb9)
          obtain rfl : b = false := BV
          rcases Nat.eq_zero_or_pos k with k0 | k0
          · obtain rfl : S = true := HS.out.2 k0
            have hz : ((k : Int) == 0) = true := bool_eq (by omega)
            go_wp2_with fail
            refine CS.out.mono ?_
            rintro e1 w9 ⟨rfl, hb⟩
            go_wp2_with fail
            go_ret
            exact ⟨rfl, B9.out.trans (hb.mono B9.out.size)⟩
          · obtain rfl : S = false := by
              cases S
              · rfl
              · have := HS.out.1 rfl; omega
            have hz : ((k : Int) == 0) = false := bool_ne (by omega)
            go_wp2_with fail
            refine CS.out.mono ?_
            rintro e1 w9 ⟨rfl, hb⟩
            go_wp2_with fail
            go_ret
            exact ⟨rfl, B9.out.trans (hb.mono B9.out.size)⟩
      · have BV : b = true := BD.out.2 (fun h => he h.1)
        have d1 : (a1 == a2) = false := bool_ne he
        have d2 : (a1 != a2) = true := by simpa using he
        clear he
        obtain rfl : b = true := BV
        rcases Nat.eq_zero_or_pos k with k0 | k0
        · obtain rfl : S = true := HS.out.2 k0
          have hz : ((k : Int) == 0) = true := bool_eq (by omega)
          go_wp2_with fail
          refine CS.out.mono ?_
          rintro e1 w9 ⟨rfl, hb⟩
          go_wp2_with fail
          go_ret
          exact ⟨rfl, B9.out.trans (hb.mono B9.out.size)⟩
        · obtain rfl : S = false := by
            cases S
            · rfl
            · have := HS.out.1 rfl; omega
          have hz : ((k : Int) == 0) = false := bool_ne (by omega)
          go_wp2_with fail
          refine CS.out.mono ?_
          rintro e1 w9 ⟨rfl, hb⟩
          go_wp2_with fail
          go_ret
          exact ⟨rfl, B9.out.trans (hb.mono B9.out.size)⟩

theorem differs_law (p : Option Addr) (n cap : Nat) (F U V : Nat → Int) (q : Option Addr) (m capq : Nat) (G H I : Nat → Int) (d : Int) (w : World) (hP : PcsAt w p n F U V) (hQ : PcsAt w q m G H I) (hcp : n ≤ cap) (hcq : m ≤ capq) :
    Calls Try.prog 8 #[.slice p n cap, .slice q m capq, .int .i64 d] w fun e w' => e = .returned (.bool true) ∧ Below w.heap.size w w' := by
  by_cases hn : 40 < n ∨ 40 < m
  · exact differs_large p n cap q m capq d w hn
  · obtain ⟨E1, C1, _, h1⟩ := check_both p n cap F U V
    obtain ⟨E2, C2, _, h2⟩ := check_both q m capq G H I
    by_cases z1 : E1 = 0
    · by_cases z2 : E2 = 0
      · exact differs_ok p n cap F U V q m capq G H I d w hP hQ hcp hcq (by omega) (by omega) (ordP_iff.1 (h1.1 z1)).2 (ordP_iff.1 (h2.1 z2)).2
      · exact differs_bad p n cap F U V q m capq G H I d E1 E2 E2 w hP hQ (by omega) (by omega) C1 C2 (Or.inr ⟨z1, z2, rfl⟩)
    · exact differs_bad p n cap F U V q m capq G H I d E1 E2 E1 w hP hQ (by omega) (by omega) C1 C2 (Or.inl ⟨z1, rfl⟩)

set_option maxRecDepth 100000 in
theorem differs_lifted (os : Os) (started : os.Started) (H : Type) (enc : TypeId × Value → H) :
    ReturnsInHanded {} Try.checked os 8 .any (Rows.timelineDiffersSpec.pre6 enc Try.prog Try.f8 [] false) (Rows.timelineDiffersSpec.post enc Try.prog Try.f8 false true false false) := by
  refine returnsInHanded_of_change (C := Try.checked) own started (by kernel_rfl) Try.func8
    (ChangeSpec.witness6 (enc := enc) (C := Try.checked) false ⟨#[], #[.slice none 0 0, .slice none 0 0, .int .i64 0], []⟩ 8 (by kernel_rfl) (by kernel_rfl) (by kernel_rfl) (by kernel_rfl)) ?_
  intro W base args ds gs before hval0 hW _ _
  have hval : ∀ (j : Nat) t v, Try.f8.params[j]? = some t → args[j]? = some v → Value.okWide Try.prog W .any base t v := hval0
  have hW' := hW
  obtain ⟨p, q, hA0, hV, rfl, hfz, hnd⟩ := hW
  have hA : DataW.TrodAll enc Try.prog W 0 (fun _ => true) true Try.f8.params.toList args.toList ds p := hA0
  rw [Try.params8] at hA hval
  obtain ⟨v0, v1, v2, d0, d1, d2, p0, p1, p2, rfl, rfl, rfl, h0, h1, h2⟩ := trodAll_three hA
  obtain ⟨rfl, rfl⟩ := trodVars_none hV
  obtain ⟨A0, n0, c0, F0, U0, V0, rfl, HG0⟩ := open_pcs (hval 0 22 v0 rfl rfl) h0
  obtain ⟨A1, n1, c1, F1, U1, V1, rfl, HG1⟩ := open_pcs (hval 1 22 v1 rfl rfl) h1
  obtain ⟨x2, rfl, rfl, rfl, wx2⟩ := open_int Try.underlying3 (hval 2 3 v2 rfl rfl) h2
  refine (differs_law A0 n0 c0 F0 U0 V0 A1 n1 c1 F1 U1 V1 x2 W HG0 HG1 (pcs_cap h0) (pcs_cap h1)).mono fun e W' ⟨he, hb⟩ => ?_
  subst he
  exact ⟨_, rfl, post_true rfl rfl (by kernel_rfl) hW' rfl hb⟩

theorem differs_said : Rows.TimelineDiffersSaid :=
  OpenClaim.holds_of_wide 8 Try.f8 rfl rfl rfl rfl rfl rfl rfl ⟨rfl, rfl, rfl, rfl, rfl⟩ rfl rfl rfl rfl rfl (by kernel_rfl) Try.func8 (by kernel_rfl)
    (of_decide_eq_true (by kernel_rfl)) (by unfold Func.isWrapper; first | (rw [if_pos (by decide +kernel)]; kernel_rfl) | (rw [if_neg (by decide +kernel)]; exact ⟨rfl, rfl⟩))
    (fun os started H enc _ => differs_lifted os started H enc)
#print axioms differs_said

end Go.Proofs.Ytcgjhbjbfdbfaaa
