/-
  Timelines as plain lists: pieces in order, the value of a day, and what parting, deleting, putting in and joining do to them. No statement of the seat is proved here.
-/
import Derived.Test.YtcgjhbjbfdbfaaaSl
namespace Go.Proofs.Ytcgjhbjbfdbfaaa
open Go.RowKit

/-- Valid spans, one behind the other. -/
def Wk (n : Nat) (F U : Nat → Int) : Prop := (∀ i, i < n → spn (F i) (U i)) ∧ ∀ i, i + 1 < n → U i ≤ F (i + 1)
/-- Pieces continue one another only at days of S. -/
def Cn (n : Nat) (F U V : Nat → Int) (S : Int → Prop) : Prop := ∀ i, i + 1 < n → U i = F (i + 1) → V i = V (i + 1) → S (F (i + 1))
/-- A day has a value. -/
def Has (n : Nat) (F U V : Nat → Int) (d x : Int) : Prop := ∃ i, i < n ∧ F i ≤ d ∧ d < U i ∧ V i = x
/-- A timeline in order, of any length. -/
def Tl (n : Nat) (F U V : Nat → Int) : Prop := Wk n F U ∧ Cn n F U V fun _ => False

section
variable {n n' : Nat} {F U V F' U' V' : Nat → Int}
theorem Wk.lt (h : Wk n F U) {i : Nat} : ∀ {j : Nat}, i < j → j < n → U i ≤ F j := by
  intro j
  induction j with
  | zero => intro h1; omega
  | succ j ih =>
    intro h1 h2
    have h3 := h.2 j h2
    have h4 := h.1 j (by omega)
    rcases (show i < j ∨ i = j by omega) with k | k
    · have := ih k (by omega); omega
    · subst k; exact h3
theorem Wk.ltF (h : Wk n F U) {i j : Nat} (hij : i < j) (hj : j < n) : F i < F j := by
  have := h.lt hij hj
  have := h.1 i (by omega)
  omega
theorem Wk.sub (h : Wk n F U) {m : Nat} (hm : m ≤ n) : Wk m F U := ⟨fun i hi => h.1 i (by omega), fun i hi => h.2 i (by omega)⟩
theorem ckAt_zero {i : Nat} : ckAt F U V i = 0 ↔ spn (F i) (U i) ∧ ¬ badP F U V i := by
  unfold ckAt
  by_cases h : spn (F i) (U i)
  · rw [if_neg (fun k => k h)]
    by_cases g : badP F U V i
    · rw [if_pos g]; exact ⟨fun k => absurd k (by omega), fun k => absurd g k.2⟩
    · rw [if_neg g]; exact ⟨fun _ => ⟨h, g⟩, fun _ => rfl⟩
  · rw [if_pos h]
    exact ⟨fun k => absurd k (by omega), fun k => absurd k.1 h⟩
theorem ordP_iff : ordP n F U V ↔ (n : Int) ≤ 1024 ∧ Tl n F U V := by
  unfold ordP Tl Wk Cn
  refine and_congr Iff.rfl ⟨fun h => ⟨⟨fun i hi => (ckAt_zero.1 (h i hi)).1, fun i hi => ?_⟩, fun i hi h1 h2 => ?_⟩, fun h i hi => ckAt_zero.2 ⟨h.1.1 i hi, fun k => ?_⟩⟩
  · have g := (ckAt_zero.1 (h (i + 1) hi)).2
    simp only [badP, Nat.add_sub_cancel] at g
    apply Classical.byContradiction
    intro k
    exact g ⟨by omega, Or.inl (by omega)⟩
  · have g := (ckAt_zero.1 (h (i + 1) hi)).2
    simp only [badP, Nat.add_sub_cancel] at g
    exact g ⟨by omega, Or.inr ⟨h1, h2⟩⟩
  · obtain ⟨k0, k⟩ := k
    obtain ⟨j, rfl⟩ : ∃ j, i = j + 1 := ⟨i - 1, by omega⟩
    simp only [Nat.add_sub_cancel] at k
    have h1 := h.1.2 j hi
    rcases k with k | k
    · omega
    · exact h.2 j hi k.1 k.2
theorem Has.fn (h : Wk n F U) {d x y : Int} (hx : Has n F U V d x) (hy : Has n F U V d y) : x = y := by
  obtain ⟨i, i1, i2, i3, rfl⟩ := hx
  obtain ⟨j, j1, j2, j3, rfl⟩ := hy
  rcases (show i < j ∨ i = j ∨ j < i by omega) with k | k | k
  · have := h.lt k j1; omega
  · rw [k]
  · have := h.lt k i1; omega

theorem one_step (h : Tl n F U V) (h' : Wk n' F' U') (hh : ∀ d x, Has n F U V d x ↔ Has n' F' U' V' d x) {i : Nat} (hi : i < n) (he : ∀ j, j < i → F j = F' j ∧ U j = U' j ∧ V j = V' j) :
    i < n' ∧ F' i ≤ F i := by
  have h1 := h.1.1 i hi
  obtain ⟨j, j1, j2, j3, j4⟩ := (hh (F i) (V i)).1 ⟨i, hi, by omega, by omega, rfl⟩
  rcases (show j < i ∨ i ≤ j by omega) with k | k
  · have := h.1.lt k hi
    have := he j k
    omega
  · refine ⟨by omega, ?_⟩
    rcases (show i = j ∨ i < j by omega) with g | g
    · subst g; exact j2
    · have := h'.ltF g j1; omega
theorem step_U (h : Tl n F U V) (hh : ∀ d x, Has n F U V d x ↔ Has n' F' U' V' d x) {i : Nat} (hi : i < n) (hi' : i < n') (hF : F i = F' i) (hV : V i = V' i) : U' i ≤ U i := by
  apply Classical.byContradiction
  intro g
  have h1 := h.1.1 i hi
  obtain ⟨j, j1, j2, j3, j4⟩ := (hh (U i) (V i)).2 ⟨i, hi', by omega, by omega, hV.symm⟩
  rcases (show j < i ∨ j = i ∨ j = i + 1 ∨ i + 1 < j by omega) with k | k | k | k
  · have := h.1.lt k hi; omega
  · subst k; omega
  · subst k
    have := h.1.2 i j1
    exact h.2 i j1 (by omega) j4.symm
  · have h2 := h.1.lt k j1
    have h3 := h.1.1 (i + 1) (by omega)
    have := h.1.2 i (by omega)
    omega
/-- Two timelines in order with the same value on each day are one. -/
theorem Tl.unique (h : Tl n F U V) (h' : Tl n' F' U' V') (hh : ∀ d x, Has n F U V d x ↔ Has n' F' U' V' d x) : n = n' ∧ ∀ i, i < n → F i = F' i ∧ U i = U' i ∧ V i = V' i := by
  have hs : ∀ d x, Has n' F' U' V' d x ↔ Has n F U V d x := fun d x => (hh d x).symm
  have key : ∀ i, (∀ j, j < i → j < n → j < n' ∧ F j = F' j ∧ U j = U' j ∧ V j = V' j) := by
    intro i
    induction i with
    | zero => intro j hj; omega
    | succ i ih =>
      intro j hj hjn
      rcases (show j < i ∨ j = i by omega) with k | k
      · exact ih j k hjn
      · subst k
        have he : ∀ k, k < j → F k = F' k ∧ U k = U' k ∧ V k = V' k := fun k hk => (ih k hk (by omega)).2
        have he' : ∀ k, k < j → F' k = F k ∧ U' k = U k ∧ V' k = V k := fun k hk => by have := he k hk; omega
        have s1 := one_step h h'.1 hh hjn he
        have s2 := one_step h' h.1 hs s1.1 he'
        have hF : F j = F' j := by omega
        have h1 := h.1.1 j hjn
        have h2 := h'.1.1 j s1.1
        have hV : V j = V' j := Has.fn h'.1 (d := F j) ((hh (F j) (V j)).1 ⟨j, hjn, by omega, by omega, rfl⟩) ⟨j, s1.1, by omega, by omega, rfl⟩
        have u1 := step_U h hh hjn s1.1 hF hV
        have u2 := step_U h' hs s1.1 hjn hF.symm hV.symm
        exact ⟨s1.1, hF, by omega, hV⟩
  have a1 : n ≤ n' := by
    rcases Nat.eq_zero_or_pos n with k | k
    · omega
    · have := (key n (n - 1) (by omega) (by omega)).1; omega
  refine ⟨?_, fun i hi => (key (i + 1) i (by omega) hi).2⟩
  apply Classical.byContradiction
  intro g
  have g2 : n < n' := by omega
  have he' : ∀ k, k < n → F' k = F k ∧ U' k = U k ∧ V' k = V k := fun k hk => by have := (key n k hk hk).2; omega
  have := one_step h' h.1 hs g2 he'
  omega

theorem upd_same (f : Nat → Int) (m : Nat) (x : Int) : upd f m x m = x := if_pos rfl
theorem upd_ne {f : Nat → Int} {m : Nat} {x : Int} {i : Nat} (h : i ≠ m) : upd f m x i = f i := if_neg h

/-- A piece behind the others that does not continue the last one. -/
theorem Tl.snoc (h : Tl n F U V) {f u v : Int} (hs : spn f u) (hl : ∀ i, i < n → U i ≤ f) (hc : ¬ (0 < n ∧ U (n - 1) = f ∧ V (n - 1) = v)) :
    Tl (n + 1) (upd F n f) (upd U n u) (upd V n v) ∧ (∀ d x, Has (n + 1) (upd F n f) (upd U n u) (upd V n v) d x ↔ Has n F U V d x ∨ (f ≤ d ∧ d < u ∧ v = x)) ∧ ∀ i, i < n + 1 → upd U n u i ≤ u := by
  refine ⟨⟨⟨fun i hi => ?_, fun i hi => ?_⟩, fun i hi h1 h2 => ?_⟩, fun d x => ⟨?_, ?_⟩, fun i hi => ?_⟩
  · rcases (show i < n ∨ i = n by omega) with k | k
    · rw [upd_ne (by omega), upd_ne (by omega)]; exact h.1.1 i k
    · subst k; rw [upd_same, upd_same]; exact hs
  · rcases (show i + 1 < n ∨ i + 1 = n by omega) with k | k
    · rw [upd_ne (by omega), upd_ne (by omega)]; exact h.1.2 i k
    · rw [k, upd_same, upd_ne (by omega)]; exact hl i (by omega)
  · rcases (show i + 1 < n ∨ i + 1 = n by omega) with k | k
    · rw [upd_ne (by omega), upd_ne (by omega)] at h1 h2; exact h.2 i k h1 h2
    · rw [k, upd_same, upd_ne (by omega)] at h1 h2
      exact hc ⟨by omega, by rw [← k]; simpa using h1, by rw [← k]; simpa using h2⟩
  · rintro ⟨i, i1, i2, i3, i4⟩
    rcases (show i < n ∨ i = n by omega) with k | k
    · rw [upd_ne (by omega)] at i2 i3 i4; exact Or.inl ⟨i, k, i2, i3, i4⟩
    · subst k; rw [upd_same] at i2 i3 i4; exact Or.inr ⟨i2, i3, i4⟩
  · rintro (⟨i, i1, i2, i3, i4⟩ | ⟨i2, i3, i4⟩)
    · refine ⟨i, by omega, ?_⟩
      rw [upd_ne (by omega), upd_ne (by omega), upd_ne (by omega)]; exact ⟨i2, i3, i4⟩
    · refine ⟨n, by omega, ?_⟩
      rw [upd_same, upd_same, upd_same]; exact ⟨i2, i3, i4⟩
  · rcases (show i < n ∨ i = n by omega) with k | k
    · rw [upd_ne (by omega)]; have := hl i k; omega
    · subst k; rw [upd_same]; omega
/-- A piece that continues the last one. -/
theorem Tl.grow (h : Tl n F U V) {f u v : Int} (hs : spn f u) (hn : 0 < n) (hU : U (n - 1) = f) (hV : V (n - 1) = v) :
    Tl n F (upd U (n - 1) u) V ∧ (∀ d x, Has n F (upd U (n - 1) u) V d x ↔ Has n F U V d x ∨ (f ≤ d ∧ d < u ∧ v = x)) ∧ ∀ i, i < n → upd U (n - 1) u i ≤ u := by
  have hF := h.1.1 (n - 1) (by omega)
  refine ⟨⟨⟨fun i hi => ?_, fun i hi => ?_⟩, fun i hi h1 h2 => ?_⟩, fun d x => ⟨?_, ?_⟩, fun i hi => ?_⟩
  · rcases (show i < n - 1 ∨ i = n - 1 by omega) with k | k
    · rw [upd_ne (by omega)]; exact h.1.1 i hi
    · subst k; rw [upd_same]; omega
  · rw [upd_ne (by omega)]; exact h.1.2 i hi
  · rw [upd_ne (by omega)] at h1; exact h.2 i hi h1 h2
  · rintro ⟨i, i1, i2, i3, i4⟩
    rcases (show i < n - 1 ∨ i = n - 1 by omega) with k | k
    · rw [upd_ne (by omega)] at i3; exact Or.inl ⟨i, i1, i2, i3, i4⟩
    · subst k
      rw [upd_same] at i3
      rcases (show d < U (n - 1) ∨ U (n - 1) ≤ d by omega) with g | g
      · exact Or.inl ⟨n - 1, i1, i2, g, i4⟩
      · exact Or.inr ⟨by omega, i3, by omega⟩
  · rintro (⟨i, i1, i2, i3, i4⟩ | ⟨i2, i3, i4⟩)
    · refine ⟨i, i1, i2, ?_, i4⟩
      rcases (show i < n - 1 ∨ i = n - 1 by omega) with k | k
      · rw [upd_ne (by omega)]; exact i3
      · subst k; rw [upd_same]; omega
    · exact ⟨n - 1, by omega, by omega, by rw [upd_same]; exact i3, by omega⟩
  · rcases (show i < n - 1 ∨ i = n - 1 by omega) with k | k
    · rw [upd_ne (by omega)]
      have := h.1.lt k (by omega)
      omega
    · subst k; rw [upd_same]; omega

theorem cutF_le {m : Nat} {d : Int} {i : Nat} (h : i ≤ m) : cutF F m d i = F i := if_pos h
theorem cutF_mid {m : Nat} {d : Int} : cutF F m d (m + 1) = d := by rw [cutF, if_neg (by omega), if_pos rfl]
theorem cutF_gt {m : Nat} {d : Int} {i : Nat} (h : m < i) : cutF F m d (i + 1) = F i := by rw [cutF, if_neg (by omega), if_neg (by omega), Nat.add_sub_cancel]
theorem cutU_lt {m : Nat} {d : Int} {i : Nat} (h : i < m) : cutU U m d i = U i := if_pos h
theorem cutU_mid {m : Nat} {d : Int} : cutU U m d m = d := by rw [cutU, if_neg (by omega), if_pos rfl]
theorem cutU_gt {m : Nat} {d : Int} {i : Nat} (h : m ≤ i) : cutU U m d (i + 1) = U i := by rw [cutU, if_neg (by omega), if_neg (by omega), Nat.add_sub_cancel]
theorem cutV_le {m : Nat} {i : Nat} (h : i ≤ m) : cutV V m i = V i := if_pos h
theorem cutV_gt {m : Nat} {i : Nat} (h : m ≤ i) : cutV V m (i + 1) = V i := by rw [cutV, if_neg (by omega), Nat.add_sub_cancel]
/-- A piece parted at a day within. -/
theorem cut_all {m : Nat} {d : Int} {S : Int → Prop} (h : Wk n F U) (hc : Cn n F U V S) (hm : m < n) (hM : midP F U d m) :
    Wk (n + 1) (cutF F m d) (cutU U m d) ∧ Cn (n + 1) (cutF F m d) (cutU U m d) (cutV V m) (fun x => S x ∨ x = d) ∧ (∀ e x, Has (n + 1) (cutF F m d) (cutU U m d) (cutV V m) e x ↔ Has n F U V e x) ∧
      (∀ i, i < n + 1 → ¬ midP (cutF F m d) (cutU U m d) d i) ∧ ∀ e, (∀ i, i < n → ¬ midP F U e i) → ∀ i, i < n + 1 → ¬ midP (cutF F m d) (cutU U m d) e i := by
  have hM0 := h.1 m hm
  obtain ⟨M1, M2⟩ := hM
  have at1 : ∀ i, i < n + 1 → (i < m ∧ i < n ∧ cutF F m d i = F i ∧ cutU U m d i = U i ∧ cutV V m i = V i) ∨ (i = m ∧ cutF F m d i = F m ∧ cutU U m d i = d ∧ cutV V m i = V m) ∨ (i = m + 1 ∧ cutF F m d i = d ∧ cutU U m d i = U m ∧ cutV V m i = V m) ∨ ∃ j, m < j ∧ j < n ∧ i = j + 1 ∧ cutF F m d i = F j ∧ cutU U m d i = U j ∧ cutV V m i = V j := by
    intro i hi
    rcases (show i < m ∨ i = m ∨ i = m + 1 ∨ m + 1 < i by omega) with k | k | k | k
    · exact Or.inl ⟨k, by omega, cutF_le (by omega), cutU_lt k, cutV_le (by omega)⟩
    · subst k; exact Or.inr (Or.inl ⟨rfl, cutF_le (by omega), cutU_mid, cutV_le (by omega)⟩)
    · subst k; exact Or.inr (Or.inr (Or.inl ⟨rfl, cutF_mid, cutU_gt (by omega), cutV_gt (by omega)⟩))
    · obtain ⟨j, rfl⟩ : ∃ j, i = j + 1 := ⟨i - 1, by omega⟩
      exact Or.inr (Or.inr (Or.inr ⟨j, by omega, by omega, rfl, cutF_gt (by omega), cutU_gt (by omega), cutV_gt (by omega)⟩))
  refine ⟨⟨fun i hi => ?_, fun i hi => ?_⟩, fun i hi => ?_, fun e x => ⟨?_, ?_⟩, fun i hi => ?_, fun e he i hi => ?_⟩
  · rcases at1 i hi with ⟨k, g, a, b, c⟩ | ⟨k, a, b, c⟩ | ⟨k, a, b, c⟩ | ⟨j, k, g, e, a, b, c⟩
    · rw [a, b]; exact h.1 i g
    · rw [a, b]; omega
    · rw [a, b]; omega
    · rw [a, b]; exact h.1 j g
  · rcases at1 i (by omega) with ⟨k, g, a, b, c⟩ | ⟨k, a, b, c⟩ | ⟨k, a, b, c⟩ | ⟨j, k, g, e, a, b, c⟩
    · rw [b, cutF_le (by omega)]; exact h.2 i (by omega)
    · subst k; rw [b, cutF_mid]; omega
    · subst k; rw [b, cutF_gt (by omega)]; exact h.2 m (by omega)
    · subst e; rw [b, cutF_gt (by omega)]; exact h.2 j (by omega)
  · rcases at1 i (by omega) with ⟨k, g, a, b, c⟩ | ⟨k, a, b, c⟩ | ⟨k, a, b, c⟩ | ⟨j, k, g, e, a, b, c⟩
    · rw [b, c, cutF_le (by omega), cutV_le (by omega)]; exact fun h1 h2 => Or.inl (hc i (by omega) h1 h2)
    · subst k; rw [b, c, cutF_mid]; exact fun _ _ => Or.inr rfl
    · subst k; rw [b, c, cutF_gt (by omega), cutV_gt (by omega)]; exact fun h1 h2 => Or.inl (hc m (by omega) h1 h2)
    · subst e; rw [b, c, cutF_gt (by omega), cutV_gt (by omega)]; exact fun h1 h2 => Or.inl (hc j (by omega) h1 h2)
  · rintro ⟨i, i1, i2, i3, i4⟩
    rcases at1 i i1 with ⟨k, g, a, b, c⟩ | ⟨k, a, b, c⟩ | ⟨k, a, b, c⟩ | ⟨j, k, g, e, a, b, c⟩
    · rw [a] at i2; rw [b] at i3; rw [c] at i4; exact ⟨i, g, i2, i3, i4⟩
    · rw [a] at i2; rw [b] at i3; rw [c] at i4; exact ⟨m, hm, i2, by omega, i4⟩
    · rw [a] at i2; rw [b] at i3; rw [c] at i4; exact ⟨m, hm, by omega, i3, i4⟩
    · rw [a] at i2; rw [b] at i3; rw [c] at i4; exact ⟨j, g, i2, i3, i4⟩
  · rintro ⟨i, i1, i2, i3, i4⟩
    rcases (show i < m ∨ i = m ∨ m < i by omega) with k | k | k
    · exact ⟨i, by omega, by rw [cutF_le (by omega)]; exact i2, by rw [cutU_lt k]; exact i3, by rw [cutV_le (by omega)]; exact i4⟩
    · subst k
      rcases (show e < d ∨ d ≤ e by omega) with g | g
      · exact ⟨i, by omega, by rw [cutF_le (by omega)]; exact i2, by rw [cutU_mid]; exact g, by rw [cutV_le (by omega)]; exact i4⟩
      · exact ⟨i + 1, by omega, by rw [cutF_mid]; exact g, by rw [cutU_gt (by omega)]; exact i3, by rw [cutV_gt (by omega)]; exact i4⟩
    · exact ⟨i + 1, by omega, by rw [cutF_gt k]; exact i2, by rw [cutU_gt (by omega)]; exact i3, by rw [cutV_gt (by omega)]; exact i4⟩
  · rintro ⟨z1, z2⟩
    rcases at1 i hi with ⟨k, g, a, b, c⟩ | ⟨k, a, b, c⟩ | ⟨k, a, b, c⟩ | ⟨j, k, g, e, a, b, c⟩
    · rw [b] at z2; have := h.lt k hm; omega
    · rw [b] at z2; omega
    · rw [a] at z1; omega
    · rw [a] at z1; have := h.lt k g; omega
  · rintro ⟨z1, z2⟩
    rcases at1 i hi with ⟨k, g, a, b, c⟩ | ⟨k, a, b, c⟩ | ⟨k, a, b, c⟩ | ⟨j, k, g, e, a, b, c⟩
    · rw [a] at z1; rw [b] at z2; exact he i g ⟨z1, z2⟩
    · rw [a] at z1; rw [b] at z2; exact he m hm ⟨z1, by omega⟩
    · rw [a] at z1; rw [b] at z2; exact he m hm ⟨by omega, z2⟩
    · rw [a] at z1; rw [b] at z2; exact he j g ⟨z1, z2⟩

/-- A list without the pieces i0 to i1. -/
def shut1 (f : Nat → Int) (i0 d : Nat) (i : Nat) : Int := if i < i0 then f i else f (i + d)
theorem shut1_lt {f : Nat → Int} {i0 d i : Nat} (h : i < i0) : shut1 f i0 d i = f i := if_pos h
theorem shut1_ge {f : Nat → Int} {i0 d i : Nat} (h : i0 ≤ i) : shut1 f i0 d i = f (i + d) := if_neg (by omega)
/-- The pieces that begin in a span are a range. -/
theorem beg_range (h : Wk n F U) {a b : Int} (hab : a < b) : ∃ i0 i1, i0 ≤ i1 ∧ i1 ≤ n ∧ (∀ i, i < i0 → F i < a) ∧ (∀ i, i1 ≤ i → i < n → b ≤ F i) ∧ ∀ i, i < n → (begIn F a b i ↔ i0 ≤ i ∧ i < i1) := by
  obtain ⟨i0, p1, p2, p3⟩ := first_bad (fun i => F i < a) n
  obtain ⟨i1, q1, q2, q3⟩ := first_bad (fun i => F i < b) n
  have h01 : i0 ≤ i1 := by
    rcases q3 with q3 | q3
    · omega
    · apply Classical.byContradiction
      intro k
      have := p2 i1 (by omega)
      omega
  have hb : ∀ i, i1 ≤ i → i < n → b ≤ F i := fun i k1 k2 => by
    rcases q3 with q3 | q3
    · omega
    · rcases (show i1 = i ∨ i1 < i by omega) with g | g
      · subst g; omega
      · have := h.ltF g k2; omega
  have ha : ∀ i, i0 ≤ i → i < n → a ≤ F i := fun i k1 k2 => by
    rcases p3 with p3 | p3
    · omega
    · rcases (show i0 = i ∨ i0 < i by omega) with g | g
      · subst g; omega
      · have := h.ltF g k2; omega
  refine ⟨i0, i1, h01, q1, p2, hb, fun i hi => ⟨fun k => ⟨?_, ?_⟩, fun k => ⟨ha i k.1 hi, q2 i k.2⟩⟩⟩
  · apply Classical.byContradiction
    intro g
    have := p2 i (by omega)
    omega
  · apply Classical.byContradiction
    intro g
    have := hb i (by omega) hi
    omega
theorem shut_all {i0 i1 : Nat} {a b : Int} (h : Wk n F U) (hc : Cn n F U V (fun x => x = a ∨ x = b)) (hab : a < b) (h01 : i0 ≤ i1) (h1 : i1 ≤ n) (hA : ∀ i, i < i0 → F i < a) (hB : ∀ i, i1 ≤ i → i < n → b ≤ F i) (hin : ∀ i, i < n → (begIn F a b i ↔ i0 ≤ i ∧ i < i1))
    (ma : ∀ i, i < n → ¬ midP F U a i) (mb : ∀ i, i < n → ¬ midP F U b i) :
    Tl (i0 + (n - i1)) (shut1 F i0 (i1 - i0)) (shut1 U i0 (i1 - i0)) (shut1 V i0 (i1 - i0)) ∧
      (∀ d x, Has (i0 + (n - i1)) (shut1 F i0 (i1 - i0)) (shut1 U i0 (i1 - i0)) (shut1 V i0 (i1 - i0)) d x ↔ ¬ (a ≤ d ∧ d < b) ∧ Has n F U V d x) ∧
      (∀ i, i < i0 → shut1 F i0 (i1 - i0) i < a ∧ shut1 U i0 (i1 - i0) i ≤ a) ∧ ∀ i, i0 ≤ i → i < i0 + (n - i1) → b ≤ shut1 F i0 (i1 - i0) i := by
  have uA : ∀ i, i < i0 → U i ≤ a := fun i hi => by
    have h1 := ma i (by omega)
    have h2 := hA i hi
    apply Classical.byContradiction
    intro k
    exact h1 ⟨h2, by omega⟩
  refine ⟨⟨⟨fun i hi => ?_, fun i hi => ?_⟩, fun i hi => ?_⟩, fun d x => ⟨?_, ?_⟩, fun i hi => ?_, fun i h2 h3 => ?_⟩
  · rcases (show i < i0 ∨ i0 ≤ i by omega) with k | k
    · rw [shut1_lt k, shut1_lt k]; exact h.1 i (by omega)
    · rw [shut1_ge k, shut1_ge k]; exact h.1 _ (by omega)
  · rcases (show i + 1 < i0 ∨ i + 1 = i0 ∨ i0 ≤ i by omega) with k | k | k
    · rw [shut1_lt (by omega), shut1_lt k]; exact h.2 i (by omega)
    · rw [shut1_lt (by omega), shut1_ge (by omega)]
      have := uA i (by omega)
      have := hB (i + 1 + (i1 - i0)) (by omega) (by omega)
      omega
    · rw [shut1_ge k, shut1_ge (by omega), show i + 1 + (i1 - i0) = i + (i1 - i0) + 1 by omega]; exact h.2 _ (by omega)
  · rcases (show i + 1 < i0 ∨ i + 1 = i0 ∨ i0 ≤ i by omega) with k | k | k
    · rw [shut1_lt (by omega), shut1_lt k, shut1_lt (by omega), shut1_lt k]
      intro g1 g2
      have := hc i (by omega) g1 g2
      have := hA (i + 1) k
      omega
    · rw [shut1_lt (by omega), shut1_ge (by omega)]
      have := uA i (by omega)
      have := hB (i + 1 + (i1 - i0)) (by omega) (by omega)
      intro g1 g2
      omega
    · rw [shut1_ge k, shut1_ge (by omega), shut1_ge k, shut1_ge (by omega), show i + 1 + (i1 - i0) = i + (i1 - i0) + 1 by omega]
      intro g1 g2
      have h5 := hc _ (by omega) g1 g2
      have h6 := hB (i + (i1 - i0)) (by omega) (by omega)
      have h7 := h.1 (i + (i1 - i0)) (by omega)
      omega
  · rintro ⟨i, i1', i2, i3, i4⟩
    rcases (show i < i0 ∨ i0 ≤ i by omega) with k | k
    · rw [shut1_lt k] at i2 i3 i4
      have := uA i k
      exact ⟨by omega, i, by omega, i2, i3, i4⟩
    · rw [shut1_ge k] at i2 i3 i4
      have := hB (i + (i1 - i0)) (by omega) (by omega)
      exact ⟨by omega, _, by omega, i2, i3, i4⟩
  · rintro ⟨hd, i, i1', i2, i3, i4⟩
    rcases (show i < i0 ∨ (i0 ≤ i ∧ i < i1) ∨ i1 ≤ i by omega) with k | k | k
    · exact ⟨i, by omega, by rw [shut1_lt k]; exact i2, by rw [shut1_lt k]; exact i3, by rw [shut1_lt k]; exact i4⟩
    · have g := (hin i i1').2 k
      have g2 := mb i i1'
      exfalso
      have : b ≤ d := by simp only [begIn] at g; omega
      exact g2 ⟨g.2, by omega⟩
    · exact ⟨i - (i1 - i0), by omega, by rw [shut1_ge (by omega), show i - (i1 - i0) + (i1 - i0) = i by omega]; exact i2, by rw [shut1_ge (by omega), show i - (i1 - i0) + (i1 - i0) = i by omega]; exact i3, by rw [shut1_ge (by omega), show i - (i1 - i0) + (i1 - i0) = i by omega]; exact i4⟩
  · rw [shut1_lt hi, shut1_lt hi]; exact ⟨hA i hi, uA i hi⟩
  · rw [shut1_ge h2]; exact hB _ (by omega) (by omega)

theorem ins_lt {f : Nat → Int} {m : Nat} {x : Int} {i : Nat} (h : i < m) : ins f m x i = f i := if_pos h
theorem ins_same {f : Nat → Int} {m : Nat} {x : Int} : ins f m x m = x := by rw [ins, if_neg (by omega), if_pos rfl]
theorem ins_gt {f : Nat → Int} {m : Nat} {x : Int} {i : Nat} (h : m ≤ i) : ins f m x (i + 1) = f i := by rw [ins, if_neg (by omega), if_neg (by omega), Nat.add_sub_cancel]
/-- A piece put into a gap. -/
theorem ins_all {m : Nat} {a b v : Int} (h : Wk n F U) (hs : spn a b) (hm : m ≤ n) (h1 : ∀ i, i < m → U i ≤ a) (h2 : ∀ i, m ≤ i → i < n → b ≤ F i) :
    Wk (n + 1) (ins F m a) (ins U m b) ∧ ∀ d x, Has (n + 1) (ins F m a) (ins U m b) (ins V m v) d x ↔ Has n F U V d x ∨ (a ≤ d ∧ d < b ∧ v = x) := by
  refine ⟨⟨fun i hi => ?_, fun i hi => ?_⟩, fun d x => ⟨?_, ?_⟩⟩
  · rcases (show i < m ∨ i = m ∨ m < i by omega) with k | k | k
    · rw [ins_lt k, ins_lt k]; exact h.1 i (by omega)
    · subst k; rw [ins_same, ins_same]; exact hs
    · obtain ⟨j, rfl⟩ : ∃ j, i = j + 1 := ⟨i - 1, by omega⟩
      rw [ins_gt (by omega), ins_gt (by omega)]; exact h.1 j (by omega)
  · rcases (show i + 1 < m ∨ i + 1 = m ∨ i = m ∨ m < i by omega) with k | k | k | k
    · rw [ins_lt (by omega), ins_lt k]; exact h.2 i (by omega)
    · rw [ins_lt (by omega), k, ins_same]; exact h1 i (by omega)
    · subst k; rw [ins_same, ins_gt (by omega)]; exact h2 i (by omega) (by omega)
    · obtain ⟨j, rfl⟩ : ∃ j, i = j + 1 := ⟨i - 1, by omega⟩
      rw [ins_gt (by omega), ins_gt (by omega)]; exact h.2 j (by omega)
  · rintro ⟨i, i1, i2, i3, i4⟩
    rcases (show i < m ∨ i = m ∨ m < i by omega) with k | k | k
    · rw [ins_lt k] at i2 i3 i4; exact Or.inl ⟨i, by omega, i2, i3, i4⟩
    · subst k; rw [ins_same] at i2 i3 i4; exact Or.inr ⟨i2, i3, i4⟩
    · obtain ⟨j, rfl⟩ : ∃ j, i = j + 1 := ⟨i - 1, by omega⟩
      rw [ins_gt (by omega)] at i2 i3 i4; exact Or.inl ⟨j, by omega, i2, i3, i4⟩
  · rintro (⟨i, i1, i2, i3, i4⟩ | ⟨i2, i3, i4⟩)
    · rcases (show i < m ∨ m ≤ i by omega) with k | k
      · exact ⟨i, by omega, by rw [ins_lt k]; exact i2, by rw [ins_lt k]; exact i3, by rw [ins_lt k]; exact i4⟩
      · exact ⟨i + 1, by omega, by rw [ins_gt k]; exact i2, by rw [ins_gt k]; exact i3, by rw [ins_gt k]; exact i4⟩
    · exact ⟨m, by omega, by rw [ins_same]; exact i2, by rw [ins_same]; exact i3, by rw [ins_same]; exact i4⟩
end

theorem Has.two {F U V : Nat → Int} {d x : Int} : Has 2 F U V d x ↔ (F 0 ≤ d ∧ d < U 0 ∧ V 0 = x) ∨ (F 1 ≤ d ∧ d < U 1 ∧ V 1 = x) := by
  constructor
  · rintro ⟨i, i1, i2⟩
    rcases (show i = 0 ∨ i = 1 by omega) with k | k <;> subst k
    · exact Or.inl i2
    · exact Or.inr i2
  · rintro (h | h)
    · exact ⟨0, by omega, h⟩
    · exact ⟨1, by omega, h⟩
theorem Has.one {F U V : Nat → Int} {d x : Int} : Has 1 F U V d x ↔ (F 0 ≤ d ∧ d < U 0 ∧ V 0 = x) := by
  constructor
  · rintro ⟨i, i1, i2⟩
    obtain rfl : i = 0 := by omega
    exact i2
  · exact fun h => ⟨0, by omega, h⟩
/-- Two numbers as a list. -/
def two (a b : Int) (i : Nat) : Int := if i = 0 then a else b
theorem Tl.two {F U V : Nat → Int} (h0 : spn (F 0) (U 0)) (h1 : spn (F 1) (U 1)) (h2 : U 0 ≤ F 1) (h3 : ¬ (U 0 = F 1 ∧ V 0 = V 1)) : Tl 2 F U V := by
  refine ⟨⟨fun i hi => ?_, fun i hi => ?_⟩, fun i hi g1 g2 => ?_⟩
  · rcases (show i = 0 ∨ i = 1 by omega) with k | k <;> subst k
    · exact h0
    · exact h1
  · obtain rfl : i = 0 := by omega
    exact h2
  · obtain rfl : i = 0 := by omega
    exact h3 ⟨g1, g2⟩
theorem Tl.one {F U V : Nat → Int} (h0 : spn (F 0) (U 0)) : Tl 1 F U V := by
  refine ⟨⟨fun i hi => ?_, fun i hi => ?_⟩, fun i hi g1 g2 => ?_⟩
  · obtain rfl : i = 0 := by omega
    exact h0
  · omega
  · omega
/-- What Set answers, of a list, a span and a value. -/
def SetOf (n : Nat) (F U V : Nat → Int) (a b v : Int) (n2 : Nat) (F2 U2 V2 : Nat → Int) : Prop :=
  Tl n2 F2 U2 V2 ∧ n2 ≤ n + 3 ∧ ∀ d x, Has n2 F2 U2 V2 d x ↔ (¬ (a ≤ d ∧ d < b) ∧ Has n F U V d x) ∨ (a ≤ d ∧ d < b ∧ v = x)
/-- What Clear answers. -/
def ClearOf (n : Nat) (F U V : Nat → Int) (a b : Int) (n2 : Nat) (F2 U2 V2 : Nat → Int) : Prop :=
  Tl n2 F2 U2 V2 ∧ n2 ≤ n + 2 ∧ ∀ d x, Has n2 F2 U2 V2 d x ↔ ¬ (a ≤ d ∧ d < b) ∧ Has n F U V d x
theorem aw_set {n2 : Nat} {F U V F2 U2 V2 : Nat → Int} (h0 : F 0 = 10 ∧ U 0 = 20 ∧ V 0 = 1) (h : SetOf 1 F U V 15 25 2 n2 F2 U2 V2) : n2 = 2 ∧ F2 1 = 15 ∧ U2 1 = 25 ∧ V2 1 = 2 := by
  obtain ⟨h1, _, h2⟩ := h
  have h3 : Tl 2 (two 10 15) (two 15 25) (two 1 2) := Tl.two (by decide) (by decide) (by decide) (by decide)
  have := h3.unique h1 (fun d x => by
    rw [h2, Has.two, Has.one, h0.1, h0.2.1, h0.2.2]
    simp only [two, if_true, Nat.one_ne_zero, if_false]
    omega)
  have g := this.2 1 (by omega)
  simp only [two, Nat.one_ne_zero, if_false] at g
  exact ⟨this.1.symm, g.1.symm, g.2.1.symm, g.2.2.symm⟩
theorem aw_clear {n2 : Nat} {F U V F2 U2 V2 : Nat → Int} (h0 : F 0 = 10 ∧ U 0 = 20 ∧ V 0 = 1) (h : ClearOf 1 F U V 12 14 n2 F2 U2 V2) : n2 = 2 ∧ F2 1 = 14 := by
  obtain ⟨h1, _, h2⟩ := h
  have h3 : Tl 2 (two 10 14) (two 12 20) (two 1 1) := Tl.two (by decide) (by decide) (by decide) (by decide)
  have := h3.unique h1 (fun d x => by
    rw [h2, Has.two, Has.one, h0.1, h0.2.1, h0.2.2]
    simp only [two, if_true, Nat.one_ne_zero, if_false]
    omega)
  have g := this.2 1 (by omega)
  simp only [two, Nat.one_ne_zero, if_false] at g
  exact ⟨this.1.symm, g.1.symm⟩
/-- What is said of a list hangs on its values alone. -/
theorem SetOf.unique {n n' n2 n2' : Nat} {F U V F' U' V' F2 U2 V2 F2' U2' V2' : Nat → Int} {a b v : Int} (hh : ∀ d x, ¬ (a ≤ d ∧ d < b) → (Has n F U V d x ↔ Has n' F' U' V' d x)) (h : SetOf n F U V a b v n2 F2 U2 V2) (h' : SetOf n' F' U' V' a b v n2' F2' U2' V2') :
    n2 = n2' ∧ ∀ i, i < n2 → F2 i = F2' i ∧ U2 i = U2' i ∧ V2 i = V2' i :=
  h.1.unique h'.1 fun d x => by
    rw [h.2.2, h'.2.2]
    by_cases g : a ≤ d ∧ d < b
    · simp [g]
    · rw [hh d x g]
theorem ClearOf.unique {n n' n2 n2' : Nat} {F U V F' U' V' F2 U2 V2 F2' U2' V2' : Nat → Int} {a b : Int} (hh : ∀ d x, ¬ (a ≤ d ∧ d < b) → (Has n F U V d x ↔ Has n' F' U' V' d x)) (h : ClearOf n F U V a b n2 F2 U2 V2) (h' : ClearOf n' F' U' V' a b n2' F2' U2' V2') :
    n2 = n2' ∧ ∀ i, i < n2 → F2 i = F2' i ∧ U2 i = U2' i ∧ V2 i = V2' i :=
  h.1.unique h'.1 fun d x => by
    rw [h.2.2, h'.2.2]
    by_cases g : a ≤ d ∧ d < b
    · simp [g]
    · rw [hh d x g]
theorem SetOf.other {n n2 : Nat} {F U V F2 U2 V2 : Nat → Int} {a b v : Int} (h : SetOf n F U V a b v n2 F2 U2 V2) (d x : Int) (g : ¬ (a ≤ d ∧ d < b)) : Has n2 F2 U2 V2 d x ↔ Has n F U V d x := by
  rw [h.2.2]
  constructor
  · rintro (k | k)
    · exact k.2
    · exact absurd ⟨k.1, k.2.1⟩ g
  · exact fun k => Or.inl ⟨g, k⟩
theorem SetOf.in {n n2 : Nat} {F U V F2 U2 V2 : Nat → Int} {a b v : Int} (h : SetOf n F U V a b v n2 F2 U2 V2) (d x : Int) (g : a ≤ d ∧ d < b) : Has n2 F2 U2 V2 d x ↔ v = x := by
  rw [h.2.2]
  constructor
  · rintro (k | k)
    · exact absurd g k.1
    · exact k.2.2
  · exact fun k => Or.inr ⟨g.1, g.2, k⟩
theorem ClearOf.other {n n2 : Nat} {F U V F2 U2 V2 : Nat → Int} {a b : Int} (h : ClearOf n F U V a b n2 F2 U2 V2) (d x : Int) (g : ¬ (a ≤ d ∧ d < b)) : Has n2 F2 U2 V2 d x ↔ Has n F U V d x := by
  rw [h.2.2]
  exact ⟨fun k => k.2, fun k => ⟨g, k⟩⟩
theorem ClearOf.in {n n2 : Nat} {F U V F2 U2 V2 : Nat → Int} {a b : Int} (h : ClearOf n F U V a b n2 F2 U2 V2) (d x : Int) (g : a ≤ d ∧ d < b) : ¬ Has n2 F2 U2 V2 d x := fun k => ((h.2.2 d x).1 k).1 g
/-- The first piece with a day. -/
theorem has_first {n : Nat} {F U V : Nat → Int} (h : Wk n F U) (d : Int) : (∃ m, m < n ∧ (∀ i, i < m → ¬ (F i ≤ d ∧ d < U i)) ∧ (F m ≤ d ∧ d < U m) ∧ ∀ x, Has n F U V d x ↔ V m = x) ∨ ((∀ i, i < n → ¬ (F i ≤ d ∧ d < U i)) ∧ ∀ x, ¬ Has n F U V d x) := by
  obtain ⟨m, m1, m2, m3⟩ := first_bad (fun i => ¬ (F i ≤ d ∧ d < U i)) n
  rcases (show m = n ∨ m < n by omega) with k | k
  · subst k
    exact Or.inr ⟨m2, fun x ⟨i, i1, i2, i3, _⟩ => m2 i i1 ⟨i2, i3⟩⟩
  · have g : F m ≤ d ∧ d < U m := Classical.not_not.1 (m3.resolve_left (by omega))
    exact Or.inl ⟨m, k, m2, g, fun x => ⟨fun hx => Has.fn h ⟨m, k, g.1, g.2, rfl⟩ hx, fun hx => ⟨m, k, g.1, g.2, hx⟩⟩⟩

theorem SetOf.piece {n n2 : Nat} {F U V F2 U2 V2 : Nat → Int} {a b v : Int} (h : SetOf n F U V a b v n2 F2 U2 V2) (hab : a < b) : ∃ m, m < n2 ∧ F2 m ≤ a ∧ b ≤ U2 m ∧ V2 m = v := by
  obtain ⟨m, m1, m2, m3, m4⟩ := (h.in a v ⟨Int.le_refl _, hab⟩).2 rfl
  refine ⟨m, m1, m2, ?_, m4⟩
  apply Classical.byContradiction
  intro g
  obtain ⟨j, j1, j2, j3, j4⟩ := (h.in (U2 m) v ⟨by omega, by omega⟩).2 rfl
  have w := h.1.1
  have hm := w.1 m m1
  rcases (show j < m ∨ j = m ∨ j = m + 1 ∨ m + 1 < j by omega) with k | k | k | k
  · have := w.lt k m1; omega
  · subst k; omega
  · subst k
    have := w.2 m j1
    exact h.1.2 m j1 (by omega) (by omega)
  · have h2 := w.lt k j1
    have h3 := w.1 (m + 1) (by omega)
    have := w.2 m (by omega)
    omega

end Go.Proofs.Ytcgjhbjbfdbfaaa
