/-
  Offices in plain Lean and as memory holds them; the faults of a list; chains. No statement of the seat is proved here.
-/
import Derived.Test.YtchaihdbljkphaaBa
namespace Go.Proofs.Ytchaihdbljkphaa
open Go Go.RowKit Go.Maps

/-- An office: its ID, its name, its span, its successors. -/
structure Off where
  id : Int
  nm : ByteArray
  fr : Int
  un : Int
  np : Option Addr
  nc : Nat
  nx : List Int
def Off.val (x : Off) : Value := .agg #[.int .i64 x.id, .string x.nm, .int .i64 x.fr, .int .i64 x.un, .slice x.np x.nx.length x.nc]
/-- Numbers in memory. -/
def IntsAt (w : World) (p : Option Addr) (l : List Int) : Prop := l = [] ∨ ∃ blk off, p = some ⟨blk, off, none⟩ ∧ ∀ i x, l[i]? = some x → w.cell? ⟨blk, off + i, none⟩ = some (.int .i64 x)
theorem IntsAt.next {w w' : World} {p : Option Addr} {l : List Int} (h : IntsAt w p l) (hb : Below w.heap.size w w') : IntsAt w' p l := by
  rcases h with h | ⟨blk, off, hp, h⟩
  · exact Or.inl h
  · exact Or.inr ⟨blk, off, hp, fun i x hi => (hb.cell (p := ⟨blk, off + i, none⟩) (World.block_lt_of_cell? w _ (h i x hi))).trans (h i x hi)⟩
theorem IntsAt.get {w : World} {p : Option Addr} {l : List Int} (h : IntsAt w p l) {i : Nat} {x : Int} (hi : l[i]? = some x) : ∃ blk off, p = some ⟨blk, off, none⟩ ∧ w.cell? ⟨blk, off + i, none⟩ = some (.int .i64 x) := by
  rcases h with h | ⟨blk, off, hp, h⟩
  · subst h; simp at hi
  · exact ⟨blk, off, hp, h i x hi⟩
def OffAt (w : World) (b o : Nat) (x : Off) : Prop := w.cell? ⟨b, o, none⟩ = some (.int .i64 x.id) ∧ w.cell? ⟨b, o + 1, none⟩ = some (.string x.nm) ∧ w.cell? ⟨b, o + 2, none⟩ = some (.int .i64 x.fr) ∧
  w.cell? ⟨b, o + 3, none⟩ = some (.int .i64 x.un) ∧ w.cell? ⟨b, o + 4, none⟩ = some (.slice x.np x.nx.length x.nc)
theorem OffAt.lt {w : World} {b o : Nat} {x : Off} (h : OffAt w b o x) : b < w.heap.size := World.block_lt_of_cell? w _ h.1
theorem OffAt.next {w w' : World} {b o : Nat} {x : Off} (h : OffAt w b o x) (hb : Below w.heap.size w w') : OffAt w' b o x :=
  ⟨(hb.cell (p := ⟨b, o, none⟩) h.lt).trans h.1, (hb.cell (p := ⟨b, o + 1, none⟩) h.lt).trans h.2.1, (hb.cell (p := ⟨b, o + 2, none⟩) h.lt).trans h.2.2.1, (hb.cell (p := ⟨b, o + 3, none⟩) h.lt).trans h.2.2.2.1, (hb.cell (p := ⟨b, o + 4, none⟩) h.lt).trans h.2.2.2.2⟩
def OffsAt (w : World) (p : Option Addr) (l : List Off) : Prop := l = [] ∨ ∃ blk off, p = some ⟨blk, off, none⟩ ∧ ∀ i x, l[i]? = some x → OffAt w blk (off + i * 5) x ∧ IntsAt w x.np x.nx
theorem OffsAt.next {w w' : World} {p : Option Addr} {l : List Off} (h : OffsAt w p l) (hb : Below w.heap.size w w') : OffsAt w' p l := by
  rcases h with h | ⟨blk, off, hp, h⟩
  · exact Or.inl h
  · exact Or.inr ⟨blk, off, hp, fun i x hi => ⟨(h i x hi).1.next hb, (h i x hi).2.next hb⟩⟩
theorem OffsAt.get {w : World} {p : Option Addr} {l : List Off} (h : OffsAt w p l) {i : Nat} {x : Off} (hi : l[i]? = some x) : ∃ blk off, p = some ⟨blk, off, none⟩ ∧ OffAt w blk (off + i * 5) x ∧ IntsAt w x.np x.nx := by
  rcases h with h | ⟨blk, off, hp, h⟩
  · subst h; simp at hi
  · exact ⟨blk, off, hp, h i x hi⟩
theorem OffsAt.ints {w : World} {p : Option Addr} {l : List Off} (h : OffsAt w p l) {x : Off} (hx : x ∈ l) : IntsAt w x.np x.nx := by
  obtain ⟨i, hi⟩ := List.getElem?_of_mem hx
  obtain ⟨_, _, _, _, h2⟩ := h.get hi
  exact h2

/-- The first office with an ID, and its index. -/
def fnd (l : List Off) (n : Int) : Option Off := l.find? fun x => decide (x.id = n)
def fix (l : List Off) (n : Int) : Option Nat := l.findIdx? fun x => decide (x.id = n)
theorem fnd_some {l : List Off} {n : Int} {x : Off} (h : fnd l n = some x) : x ∈ l ∧ x.id = n :=
  ⟨List.mem_of_find?_eq_some h, of_decide_eq_true (List.find?_some (p := fun x : Off => decide (x.id = n)) h)⟩
theorem fnd_none {l : List Off} {n : Int} : fnd l n = none ↔ ∀ x ∈ l, x.id ≠ n := by
  unfold fnd
  rw [List.find?_eq_none]
  constructor
  · intro h x hx e
    exact h x hx (decide_eq_true e)
  · intro h x hx e
    exact h x hx (of_decide_eq_true e)
theorem fnd_ex {l : List Off} {n : Int} {x : Off} (hx : x ∈ l) (e : x.id = n) : ∃ y, fnd l n = some y := by
  cases h : fnd l n with
  | some y => exact ⟨y, rfl⟩
  | none => exact absurd e (fnd_none.1 h x hx)
/-- A day is in an office's span. -/
def inD (x : Off) (d : Int) : Bool := decide (x.fr ≤ d) && decide (d < x.un)
/-- The error of an office's successors, and of an office with an index. -/
def nxtE (l : List Off) (x : Off) : Int :=
  if ¬ x.nx.Nodup then 6
  else if (x.nx.any fun n => (fnd l n).isNone) = true then 7
  else if (x.nx.any fun n => match fnd l n with | some y => decide (y.fr ≠ x.un) | none => false) = true then 10
  else 0
def slfE (x : Off) : Int :=
  if ¬ (1 ≤ x.id ∧ x.id ≤ 1073741824 ∧ 0 ≤ x.fr ∧ x.fr < x.un ∧ x.un ≤ 1048576 ∧ x.nx.length ≤ 8) then 2
  else if nameB (bs x.nm) = false then 4
  else 0
def bef (l : List Off) (i : Nat) (x : Off) : Bool := decide (0 < i) && (match l[i - 1]? with | some y => decide (x.id ≤ y.id) | none => false)
def ofE (l : List Off) (i : Nat) : Int :=
  match l[i]? with
  | none => 0
  | some x => if slfE x ≠ 0 then slfE x else if bef l i x = true then 5 else nxtE l x
/-- What Check answers. -/
def OChk (l : List Off) (I E : Int) : Prop :=
  (32 < l.length ∧ I = -1 ∧ E = 8) ∨ (l.length ≤ 32 ∧ (∀ i, i < l.length → ofE l i = 0) ∧ I = -1 ∧ E = 0) ∨
    ∃ i : Nat, l.length ≤ 32 ∧ i < l.length ∧ (∀ j, j < i → ofE l j = 0) ∧ ofE l i = E ∧ E ≠ 0 ∧ I = i
theorem ochk_ex (l : List Off) : ∃ I E, OChk l I E := by
  by_cases h : 32 < l.length
  · exact ⟨-1, 8, Or.inl ⟨h, rfl, rfl⟩⟩
  by_cases h2 : ∀ i, i < l.length → ofE l i = 0
  · exact ⟨-1, 0, Or.inr (Or.inl ⟨by omega, h2, rfl, rfl⟩)⟩
  · have : ∃ i, i < l.length ∧ ofE l i ≠ 0 := by
      refine Classical.byContradiction fun k => h2 fun i hi => Classical.byContradiction fun g => k ⟨i, hi, g⟩
    obtain ⟨m, hm⟩ := this
    have : ∃ i, (i < l.length ∧ ofE l i ≠ 0) ∧ ∀ j, j < i → ¬ (j < l.length ∧ ofE l j ≠ 0) := by
      induction m using Nat.strongRecOn with
      | ind m ih =>
        by_cases k : ∃ j, j < m ∧ (j < l.length ∧ ofE l j ≠ 0)
        · obtain ⟨j, j1, j2⟩ := k
          exact ih j j1 j2
        · exact ⟨m, hm, fun j hj hk => k ⟨j, hj, hk⟩⟩
    obtain ⟨i, ⟨i1, i2⟩, i3⟩ := this
    refine ⟨i, ofE l i, Or.inr (Or.inr ⟨i, by omega, i1, fun j hj => ?_, rfl, i2, rfl⟩)⟩
    exact Classical.byContradiction fun g => i3 j hj ⟨by omega, g⟩
theorem ochk_one {l : List Off} {I E I' E' : Int} (h : OChk l I E) (h' : OChk l I' E') : I = I' ∧ E = E' := by
  rcases h with ⟨a1, a2, a3⟩ | ⟨a1, a2, a3, a4⟩ | ⟨i, a1, a2, a3, a4, a5, a6⟩ <;> rcases h' with ⟨b1, b2, b3⟩ | ⟨b1, b2, b3, b4⟩ | ⟨j, b1, b2, b3, b4, b5, b6⟩ <;> try omega
  · exact absurd (b4.symm.trans (a2 j b2)) b5
  · exact absurd (a4.symm.trans (b2 i a2)) a5
  · have : i = j := by
      rcases Nat.lt_trichotomy i j with k | k | k
      · exact absurd (a4.symm.trans (b3 i k)) a5
      · exact k
      · exact absurd (b4.symm.trans (a3 j k)) b5
    subst this
    omega
/-- A list without a fault. -/
def GoodO (l : List Off) : Prop := l.length ≤ 32 ∧ ∀ i, i < l.length → ofE l i = 0
theorem OChk.good {l : List Off} {I : Int} (h : OChk l I 0) : GoodO l ∧ I = -1 := by
  rcases h with ⟨_, _, h3⟩ | ⟨h1, h2, h3, _⟩ | ⟨j, _, _, _, h4, h5, _⟩
  · cases h3
  · exact ⟨⟨h1, h2⟩, h3⟩
  · exact absurd rfl h5
theorem OChk.bad {l : List Off} {I E : Int} (h : OChk l I E) (hE : E ≠ 0) : ¬ GoodO l := by
  rintro ⟨g1, g2⟩
  rcases h with ⟨h1, _, _⟩ | ⟨_, _, _, h4⟩ | ⟨j, _, h2, _, h4, _, _⟩
  · omega
  · exact hE h4
  · exact hE (h4.symm.trans (g2 j h2))
/-- What an office of such a list is. -/
structure Fine (l : List Off) (x : Off) : Prop where
  id1 : 1 ≤ x.id
  id2 : x.id ≤ 1073741824
  fr0 : 0 ≤ x.fr
  fu : x.fr < x.un
  un2 : x.un ≤ 1048576
  n8 : x.nx.length ≤ 8
  nod : x.nx.Nodup
  nxt : ∀ n ∈ x.nx, ∃ y, fnd l n = some y ∧ y.fr = x.un
theorem GoodO.at {l : List Off} (h : GoodO l) {i : Nat} {x : Off} (hi : l[i]? = some x) : Fine l x ∧ ∀ y, 0 < i → l[i - 1]? = some y → y.id < x.id := by
  have h0 := h.2 i (List.getElem?_eq_some_iff.1 hi).1
  unfold ofE at h0
  rw [hi] at h0
  simp only at h0
  split at h0
  · rename_i g; exact absurd h0 g
  rename_i g1
  have g1 := Classical.not_not.1 g1
  split at h0
  · cases h0
  rename_i g2
  unfold slfE at g1
  split at g1
  · cases g1
  rename_i k1
  have k1 := Classical.not_not.1 k1
  obtain ⟨a1, a2, a3, a4, a5, a6⟩ := k1
  unfold nxtE at h0
  split at h0
  · cases h0
  rename_i n1
  have n1 := Classical.not_not.1 n1
  split at h0
  · cases h0
  rename_i n2
  split at h0
  · cases h0
  rename_i n3
  refine ⟨⟨a1, a2, a3, a4, a5, a6, n1, fun n hn => ?_⟩, fun y h1 hy => ?_⟩
  · cases hf : fnd l n with
    | none => exact absurd (List.any_eq_true.2 ⟨n, hn, by rw [hf]; rfl⟩) n2
    | some y =>
      refine ⟨y, rfl, Classical.byContradiction fun k => n3 (List.any_eq_true.2 ⟨n, hn, ?_⟩)⟩
      rw [hf]
      exact decide_eq_true k
  · unfold bef at g2
    rw [decide_eq_true h1, hy] at g2
    simp only [Bool.true_and, decide_eq_true_eq] at g2
    omega
theorem GoodO.fine {l : List Off} (h : GoodO l) {x : Off} (hx : x ∈ l) : Fine l x := by
  obtain ⟨i, hi⟩ := List.getElem?_of_mem hx
  exact (h.at hi).1
theorem GoodO.lt {l : List Off} (h : GoodO l) : ∀ (d i : Nat) (x y : Off), l[i]? = some x → l[i + d + 1]? = some y → x.id < y.id := by
  intro d
  induction d with
  | zero =>
    intro i x y hx hy
    exact (h.at hy).2 x (by omega) hx
  | succ d ih =>
    intro i x y hx hy
    obtain ⟨z, hz⟩ : ∃ z, l[i + d + 1]? = some z := ⟨_, List.getElem?_eq_getElem (by have := (List.getElem?_eq_some_iff.1 hy).1; omega)⟩
    have h1 := ih i x z hx hz
    have h2 := (h.at hy).2 z (by omega) (by rw [show i + (d + 1) + 1 - 1 = i + d + 1 by omega]; exact hz)
    omega
theorem GoodO.inj {l : List Off} (h : GoodO l) {i j : Nat} {x y : Off} (hx : l[i]? = some x) (hy : l[j]? = some y) (e : x.id = y.id) : i = j := by
  rcases Nat.lt_trichotomy i j with k | k | k
  · have := h.lt (j - i - 1) i x y hx (by rw [show i + (j - i - 1) + 1 = j by omega]; exact hy)
    omega
  · exact k
  · have := h.lt (i - j - 1) j y x hy (by rw [show j + (i - j - 1) + 1 = i by omega]; exact hx)
    omega
theorem GoodO.fndm {l : List Off} (h : GoodO l) {x : Off} (hx : x ∈ l) : fnd l x.id = some x := by
  obtain ⟨y, hy⟩ := fnd_ex hx rfl
  obtain ⟨h1, h2⟩ := fnd_some hy
  obtain ⟨i, hi⟩ := List.getElem?_of_mem hx
  obtain ⟨j, hj⟩ := List.getElem?_of_mem h1
  obtain rfl := h.inj hi hj h2.symm
  rw [hy, ← hi, hj]
theorem GoodO.ids {l : List Off} (h : GoodO l) : (l.map (·.id)).Pairwise (· < ·) := by
  rw [List.pairwise_iff_getElem]
  intro i j hi hj hij
  rw [List.length_map] at hi hj
  rw [List.getElem_map, List.getElem_map]
  exact h.lt (j - i - 1) i _ _ (List.getElem?_eq_getElem hi) (by rw [show i + (j - i - 1) + 1 = j by omega]; exact List.getElem?_eq_getElem hj)

/-- The chain of an office on a day. -/
inductive Ch (l : List Off) (d : Int) : Int → List Int → Prop
  | stop {n : Int} {x : Off} : fnd l n = some x → inD x d = true ∨ x.nx = [] → Ch l d n [n]
  | step {n m : Int} {x : Off} {t c : List Int} : fnd l n = some x → inD x d = false → x.nx = m :: t → Ch l d m c → Ch l d n (n :: c)
theorem Ch.one {l : List Off} {d : Int} {n : Int} {c c' : List Int} (h : Ch l d n c) (h' : Ch l d n c') : c = c' := by
  induction h generalizing c' with
  | stop h1 h2 =>
    cases h' with
    | stop => rfl
    | step k1 k2 k3 _ =>
      obtain rfl := Option.some.inj (h1.symm.trans k1)
      rcases h2 with h2 | h2
      · rw [h2] at k2; cases k2
      · rw [h2] at k3; cases k3
  | step h1 h2 h3 _ ih =>
    cases h' with
    | stop k1 k2 =>
      obtain rfl := Option.some.inj (h1.symm.trans k1)
      rcases k2 with k2 | k2
      · rw [h2] at k2; cases k2
      · rw [k2] at h3; cases h3
    | step k1 k2 k3 k4 =>
      obtain rfl := Option.some.inj (h1.symm.trans k1)
      rw [h3] at k3
      obtain ⟨rfl, _⟩ := List.cons.inj k3
      rw [ih k4]
theorem Ch.ne {l : List Off} {d : Int} {n : Int} {c : List Int} (h : Ch l d n c) : ∃ t, c = n :: t := by
  cases h with
  | stop => exact ⟨_, rfl⟩
  | step => exact ⟨_, rfl⟩
theorem Ch.hasx {l : List Off} {d : Int} {n : Int} {c : List Int} (h : Ch l d n c) : ∃ x, fnd l n = some x := by
  cases h with
  | stop h => exact ⟨_, h⟩
  | step h => exact ⟨_, h⟩
/-- How many offices begin on a day or later. -/
def rk (l : List Off) (f : Int) : Nat := (l.filter fun x => decide (f ≤ x.fr)).length
theorem rk_le (l : List Off) (f : Int) : rk l f ≤ l.length := List.length_filter_le _ _
theorem rk_lt {l : List Off} {f g : Int} (h : f < g) {x : Off} (hx : x ∈ l) (e : x.fr = f) : rk l g < rk l f := by
  unfold rk
  have hs : (l.filter fun x => decide (g ≤ x.fr)).Sublist (l.filter fun x => decide (f ≤ x.fr)) := by
    have e3 : (l.filter fun x => decide (g ≤ x.fr)) = (l.filter fun x => decide (f ≤ x.fr)).filter fun x => decide (g ≤ x.fr) := by
      rw [List.filter_filter]
      refine List.filter_congr fun y _ => ?_
      by_cases k : g ≤ y.fr
      · rw [decide_eq_true k, decide_eq_true (show f ≤ y.fr by omega)]; rfl
      · rw [decide_eq_false k]; rfl
    rw [e3]
    exact List.filter_sublist
  refine Nat.lt_of_le_of_ne hs.length_le fun k => ?_
  have e2 := hs.eq_of_length k
  have hm : x ∈ l.filter fun x => decide (f ≤ x.fr) := List.mem_filter.2 ⟨hx, decide_eq_true (by omega)⟩
  rw [← e2] at hm
  have := of_decide_eq_true (List.mem_filter.1 hm).2
  omega
theorem GoodO.ch {l : List Off} (h : GoodO l) (d : Int) : ∀ (k : Nat) (n : Int) (x : Off), fnd l n = some x → rk l x.fr ≤ k → ∃ c, Ch l d n c ∧ c.length ≤ k := by
  intro k
  induction k with
  | zero =>
    intro n x hx hk
    have := rk_lt (show x.fr < x.fr + 1 by omega) (fnd_some hx).1 rfl
    omega
  | succ k ih =>
    intro n x hx hk
    have hm := (fnd_some hx).1
    by_cases h1 : inD x d = true ∨ x.nx = []
    · exact ⟨_, .stop hx h1, by simp⟩
    · have h2 : inD x d = false := by cases e : inD x d with | true => exact absurd (Or.inl e) h1 | false => rfl
      cases h3 : x.nx with
      | nil => exact absurd (Or.inr h3) h1
      | cons m t =>
        have F := h.fine hm
        obtain ⟨y, hy, he⟩ := F.nxt m (by rw [h3]; exact List.mem_cons_self)
        have := rk_lt (show x.fr < y.fr by have := F.fu; omega) hm rfl
        obtain ⟨c, hc, hl⟩ := ih m y hy (by omega)
        exact ⟨_, .step hx h2 h3 hc, by rw [List.length_cons]; omega⟩

end Go.Proofs.Ytchaihdbljkphaa
