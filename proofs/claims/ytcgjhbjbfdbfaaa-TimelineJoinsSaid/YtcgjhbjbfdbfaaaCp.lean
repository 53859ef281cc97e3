/-
  What changes between two timelines, as plain lists: the parts between bounds, and lists that grow. No statement of the seat is proved here.
-/
import Derived.Test.YtcgjhbjbfdbfaaaPa
namespace Go.Proofs.Ytcgjhbjbfdbfaaa
open Go.RowKit

section
variable {n m L : Nat} {F U V G H I T : Nat → Int}
/-- Between two bounds nothing changes. -/
theorem part_const (hB : BoundsOf n F U m G H L T) {j : Nat} (hj : j + 1 < L) {d : Int} (h1 : T j ≤ d) (h2 : d < T (j + 1)) (x : Int) : Has n F U V d x ↔ Has n F U V (T j) x := by
  have mono : ∀ a b, a < L → b < L → T a < T b → a < b := fun a b ha hb h => by
    rcases (show a < b ∨ a = b ∨ b < a by omega) with c | c | c
    · exact c
    · subst c; omega
    · have := hB.1 b a c ha; omega
  constructor
  · rintro ⟨i, i1, i2, i3, i4⟩
    obtain ⟨a, a1, a2⟩ := (hB.2.1 (F i)).2 (Or.inl ⟨i, i1, Or.inl rfl⟩)
    have : a < j + 1 := mono a (j + 1) a1 hj (by omega)
    refine ⟨i, i1, ?_, by omega, i4⟩
    rcases (show a < j ∨ a = j by omega) with c | c
    · have := hB.1 a j c (by omega); omega
    · subst c; omega
  · rintro ⟨i, i1, i2, i3, i4⟩
    obtain ⟨b, b1, b2⟩ := (hB.2.1 (U i)).2 (Or.inl ⟨i, i1, Or.inr rfl⟩)
    have : j < b := mono j b (by omega) b1 (by omega)
    refine ⟨i, i1, by omega, ?_, i4⟩
    rcases (show j + 1 < b ∨ b = j + 1 by omega) with c | c
    · have := hB.1 (j + 1) b c b1; omega
    · subst c; omega
theorem bounds_swap (hB : BoundsOf n F U m G H L T) : BoundsOf m G H n F U L T :=
  ⟨hB.1, fun x => (hB.2.1 x).trans ⟨fun h => h.symm, fun h => h.symm⟩, by have := hB.2.2; omega⟩
/-- A day with a value lies in a part. -/
theorem part_of (hB : BoundsOf n F U m G H L T) {d x : Int} (h : Has n F U V d x) : ∃ j, j + 1 < L ∧ T j ≤ d ∧ d < T (j + 1) := by
  obtain ⟨i, i1, i2, i3, _⟩ := h
  obtain ⟨a, a1, a2⟩ := (hB.2.1 (F i)).2 (Or.inl ⟨i, i1, Or.inl rfl⟩)
  obtain ⟨b, b1, b2⟩ := (hB.2.1 (U i)).2 (Or.inl ⟨i, i1, Or.inr rfl⟩)
  obtain ⟨r, r1, r2, r3⟩ := first_bad (fun j => T j ≤ d) L
  have hra : a < r := by
    apply Classical.byContradiction
    intro g
    rcases r3 with r3 | r3
    · omega
    · rcases (show r = a ∨ r < a by omega) with c | c
      · subst c; omega
      · have := hB.1 r a c a1; omega
  have hrb : r ≤ b := by
    apply Classical.byContradiction
    intro g
    have := r2 b (by omega)
    omega
  have hr : ¬ T r ≤ d := r3.resolve_left (by omega)
  refine ⟨r - 1, by omega, r2 (r - 1) (by omega), ?_⟩
  rw [show r - 1 + 1 = r by omega]
  omega
theorem AtRes.iff {d d' A A' : Int} {O O' : Bool} (hW : Wk n F U) (h : AtRes n F U V d A O) (h' : AtRes n F U V d' A' O') (hh : ∀ x, Has n F U V d' x ↔ Has n F U V d x) : A' = A ∧ O' = O := by
  rcases h with ⟨rfl, h⟩ | ⟨rfl, rfl, h⟩
  · rcases h' with ⟨rfl, h'⟩ | ⟨rfl, rfl, h'⟩
    · exact ⟨((hh _).1 h').fn hW h, rfl⟩
    · exact absurd ((hh _).2 h) (h' _)
  · rcases h' with ⟨rfl, h'⟩ | ⟨rfl, rfl, h'⟩
    · exact absurd ((hh _).1 h') (h _)
    · exact ⟨rfl, rfl⟩
theorem Wk.snoc (h : Wk n F U) {f u : Int} (hs : spn f u) (hl : ∀ i, i < n → U i ≤ f) : Wk (n + 1) (upd F n f) (upd U n u) := by
  refine ⟨fun i hi => ?_, fun i hi => ?_⟩
  · rcases (show i < n ∨ i = n by omega) with k | k
    · rw [upd_ne (by omega), upd_ne (by omega)]; exact h.1 i k
    · subst k; rw [upd_same, upd_same]; exact hs
  · rcases (show i + 1 < n ∨ i + 1 = n by omega) with k | k
    · rw [upd_ne (by omega), upd_ne (by omega)]; exact h.2 i k
    · rw [k, upd_same, upd_ne (by omega)]; exact hl i (by omega)
theorem Has.snoc {f u v d x : Int} : Has (n + 1) (upd F n f) (upd U n u) (upd V n v) d x ↔ Has n F U V d x ∨ (f ≤ d ∧ d < u ∧ v = x) := by
  constructor
  · rintro ⟨i, i1, i2, i3, i4⟩
    rcases (show i < n ∨ i = n by omega) with k | k
    · rw [upd_ne (by omega)] at i2 i3 i4; exact Or.inl ⟨i, k, i2, i3, i4⟩
    · subst k; rw [upd_same] at i2 i3 i4; exact Or.inr ⟨i2, i3, i4⟩
  · rintro (⟨i, i1, i2, i3, i4⟩ | ⟨i2, i3, i4⟩)
    · refine ⟨i, by omega, ?_⟩
      rw [upd_ne (by omega), upd_ne (by omega), upd_ne (by omega)]; exact ⟨i2, i3, i4⟩
    · refine ⟨n, by omega, ?_⟩
      rw [upd_same, upd_same, upd_same]; exact ⟨i2, i3, i4⟩
end

/-- A list gathered out of the first k parts: those that count, each with its value. -/
def Gath (L k : Nat) (T : Nat → Int) (D : Nat → Prop) (X : Nat → Int) (n2 : Nat) (F2 U2 V2 : Nat → Int) : Prop :=
  Wk n2 F2 U2 ∧ n2 ≤ k ∧ (∀ d x, Has n2 F2 U2 V2 d x ↔ ∃ j, j < k ∧ D j ∧ (T j ≤ d ∧ d < T (j + 1)) ∧ X j = x) ∧ ∀ i, i < n2 → ∀ j, k ≤ j → j < L → U2 i ≤ T j
theorem Gath.nil {L : Nat} {T : Nat → Int} {D : Nat → Prop} {X F U V : Nat → Int} : Gath L 0 T D X 0 F U V :=
  ⟨⟨fun i hi => absurd hi (by omega), fun i hi => absurd hi (by omega)⟩, Nat.le_refl _, fun d x => ⟨fun h => absurd h Has.zero, fun ⟨j, hj, _⟩ => absurd hj (by omega)⟩, fun i hi => absurd hi (by omega)⟩
theorem Gath.skip {L k n2 : Nat} {T X F2 U2 V2 : Nat → Int} {D : Nat → Prop} (h : Gath L k T D X n2 F2 U2 V2) (hD : ¬ D k) : Gath L (k + 1) T D X n2 F2 U2 V2 := by
  refine ⟨h.1, by have := h.2.1; omega, fun d x => (h.2.2.1 d x).trans ⟨fun ⟨j, hj, g⟩ => ⟨j, by omega, g⟩, fun ⟨j, hj, g⟩ => ?_⟩, fun i hi j h1 h2 => h.2.2.2 i hi j (by omega) h2⟩
  rcases (show j < k ∨ j = k by omega) with c | c
  · exact ⟨j, c, g⟩
  · subst c; exact absurd g.1 hD
theorem Gath.take {L k n2 : Nat} {T X F2 U2 V2 : Nat → Int} {D : Nat → Prop} (h : Gath L k T D X n2 F2 U2 V2) (hD : D k) (hk : k + 1 < L) (hT : ∀ i j, i < j → j < L → T i < T j) (h0 : 0 ≤ T k) (h9 : T (k + 1) ≤ 1048576) :
    Gath L (k + 1) T D X (n2 + 1) (upd F2 n2 (T k)) (upd U2 n2 (T (k + 1))) (upd V2 n2 (X k)) := by
  have hlt := hT k (k + 1) (by omega) hk
  refine ⟨h.1.snoc ⟨h0, hlt, h9⟩ (fun i hi => h.2.2.2 i hi k (Nat.le_refl _) (by omega)), by have := h.2.1; omega, fun d x => ?_, fun i hi j h1 h2 => ?_⟩
  · rw [Has.snoc, h.2.2.1]
    constructor
    · rintro (⟨j, hj, g⟩ | g)
      · exact ⟨j, by omega, g⟩
      · exact ⟨k, by omega, hD, ⟨g.1, g.2.1⟩, g.2.2⟩
    · rintro ⟨j, hj, g⟩
      rcases (show j < k ∨ j = k by omega) with c | c
      · exact Or.inl ⟨j, c, g⟩
      · subst c; exact Or.inr ⟨g.2.1.1, g.2.1.2, g.2.2⟩
  · rcases (show i < n2 ∨ i = n2 by omega) with c | c
    · rw [upd_ne (by omega)]; exact h.2.2.2 i c j (by omega) h2
    · subst c
      rw [upd_same]
      rcases (show k + 1 = j ∨ k + 1 < j by omega) with e | e
      · subst e; exact Int.le_refl _
      · have := hT (k + 1) j e h2; omega

/-- Parts in memory. -/
def PartsAt (w : World) (p : Option Addr) (K : Nat) (T va : Nat → Int) (oa : Nat → Bool) (vb : Nat → Int) (ob : Nat → Bool) : Prop :=
  K = 0 ∨ ∃ g, p = some ⟨g, 0, none⟩ ∧ ∀ i, i < K → (w.cell? ⟨g, i * 6, none⟩ = some (.int .i64 (T i)) ∧ w.cell? ⟨g, i * 6 + 1, none⟩ = some (.int .i64 (T (i + 1)))) ∧ (w.cell? ⟨g, i * 6 + 2, none⟩ = some (.int .i64 (va i)) ∧ w.cell? ⟨g, i * 6 + 3, none⟩ = some (.bool (oa i))) ∧
    (w.cell? ⟨g, i * 6 + 4, none⟩ = some (.int .i64 (vb i)) ∧ w.cell? ⟨g, i * 6 + 5, none⟩ = some (.bool (ob i)))
theorem parts_at {w : World} {B : Nat} {v : Value} {K : Nat} {xs : List Value} {T va vb : Nat → Int} {oa ob : Nat → Bool} (h : w.ownsRow B 61 6 v K xs) (hx : PartCells xs K T va oa vb ob) : ∃ p c, v = .slice p K c ∧ PartsAt w p K T va oa vb ob := by
  rcases h.2 with ⟨rfl, rfl⟩ | ⟨g, c, cur, rfl, _⟩
  · exact ⟨none, 0, rfl, Or.inl rfl⟩
  · refine ⟨_, c, rfl, Or.inr ⟨g, rfl, fun i hi => ?_⟩⟩
    have key : ∀ j u, j < 6 → (part6 (T i) (T (i + 1)) (va i) (oa i) (vb i) (ob i))[j]? = some u → w.cell? ⟨g, i * 6 + j, none⟩ = some u := fun j u hj hu => by
      have := h.cells rfl (i * 6 + j) u (by rw [hx.2 i hi j hj]; exact hu)
      rwa [Addr.add_lit, Nat.zero_add] at this
    exact ⟨⟨key 0 _ (by omega) rfl, key 1 _ (by omega) rfl⟩, ⟨key 2 _ (by omega) rfl, key 3 _ (by omega) rfl⟩, key 4 _ (by omega) rfl, key 5 _ (by omega) rfl⟩
theorem PartsAt.get {w : World} {p : Option Addr} {K : Nat} {T va vb : Nat → Int} {oa ob : Nat → Bool} (h : PartsAt w p K T va oa vb ob) {i : Nat} (hi : i < K) : ∃ g, p = some ⟨g, 0, none⟩ ∧ (w.cell? ⟨g, i * 6, none⟩ = some (.int .i64 (T i)) ∧ w.cell? ⟨g, i * 6 + 1, none⟩ = some (.int .i64 (T (i + 1)))) ∧ (w.cell? ⟨g, i * 6 + 2, none⟩ = some (.int .i64 (va i)) ∧ w.cell? ⟨g, i * 6 + 3, none⟩ = some (.bool (oa i))) ∧
    (w.cell? ⟨g, i * 6 + 4, none⟩ = some (.int .i64 (vb i)) ∧ w.cell? ⟨g, i * 6 + 5, none⟩ = some (.bool (ob i))) := by
  rcases h with h | ⟨g, hp, h⟩
  · omega
  · exact ⟨g, hp, h i hi⟩
theorem PartsAt.next {w w' : World} {p : Option Addr} {K : Nat} {T va vb : Nat → Int} {oa ob : Nat → Bool} (h : PartsAt w p K T va oa vb ob) (hb : Below w.heap.size w w') : PartsAt w' p K T va oa vb ob := by
  rcases h with h | ⟨g, hp, h⟩
  · exact Or.inl h
  · refine Or.inr ⟨g, hp, fun i hi => ?_⟩
    obtain ⟨⟨a, b⟩, ⟨c, d⟩, e, f⟩ := h i hi
    have key : ∀ j u, w.cell? ⟨g, j, none⟩ = some u → w'.cell? ⟨g, j, none⟩ = some u := fun j u hu => (hb.cell (p := ⟨g, j, none⟩) (World.block_lt_of_cell? w _ hu)).trans hu
    exact ⟨⟨key _ _ a, key _ _ b⟩, ⟨key _ _ c, key _ _ d⟩, key _ _ e, key _ _ f⟩

end Go.Proofs.Ytcgjhbjbfdbfaaa
