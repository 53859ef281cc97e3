/-
  copy and append on lists of pieces, as blocks that hold cells. No statement of the seat is proved here.
-/
import Derived.Test.YtcgjhbjbfdbfaaaDv
import Derived.Lib.AppendZeros
import Derived.Laws.CopyOwn
namespace Go.Proofs.Ytcgjhbjbfdbfaaa
open Go.RowKit

/-- Cells p, p + 1, .. -/
def cellsOf (us : Nat → Value) (p m : Nat) : List Value := (List.range m).map fun j => us (p + j)
theorem cellsOf_len (us : Nat → Value) (p m : Nat) : (cellsOf us p m).length = m := by simp [cellsOf]
theorem cellsOf_get (us : Nat → Value) (p : Nat) {m j : Nat} (hj : j < m) : (cellsOf us p m)[j]? = some (us (p + j)) := by simp [cellsOf, hj]
theorem cellsOf_some {us : Nat → Value} {p m j : Nat} {v : Value} (h : (cellsOf us p m)[j]? = some v) : j < m ∧ v = us (p + j) := by
  have hj : j < m := by
    have := List.getElem?_eq_some_iff.1 h
    obtain ⟨k, _⟩ := this
    rw [cellsOf_len] at k
    exact k
  rw [cellsOf_get us p hj] at h
  exact ⟨hj, (Option.some.inj h).symm⟩
/-- What a block holds behind a store of cells. -/
def laid (vs : Nat → Value) (o : Nat) (us : Nat → Value) (p m : Nat) (q : Nat) : Value := if o ≤ q ∧ q < o + m then us (p + (q - o)) else vs q

theorem HoldsN.laid {N : Nat} {w : World} {b : Nat} {vs : Nat → Value} (h : HoldsN N w b vs) (us : Nat → Value) (o p m : Nat) (ho : o + m ≤ N) : HoldsN N (w.setCells b o (cellsOf us p m)) b (laid vs o us p m) := by
  refine ⟨Nat.lt_of_lt_of_le h.1 (setCells_below (Nat.le_refl _) _ o w (Below.refl b w)).size, fun i hi => ⟨?_, ?_⟩⟩
  · unfold Ytcgjhbjbfdbfaaa.laid
    by_cases g : o ≤ i ∧ i < o + m
    · have := World.cell?_setCells_in b (cellsOf us p m) o w (fun j hj => by rw [h.cell _ (by rw [cellsOf_len] at hj; omega)]; rfl) (i - o) (by rw [cellsOf_len]; omega)
      rw [show o + (i - o) = i by omega] at this
      rw [this, if_pos g]
      have g2 := cellsOf_get us p (m := m) (j := i - o) (by omega)
      rw [List.getElem?_eq_getElem (by rw [cellsOf_len]; omega)] at g2
      exact g2
    · rw [World.cell?_setCells_out b _ o w _ (fun _ _ => by rw [cellsOf_len]; show i < o ∨ o + m ≤ i; omega), if_neg g]
      exact h.cell i hi
  · rw [World.frozen?_setCells]
    exact h.frozen i hi

theorem run_copy3 {P : Program} (w : World) (dT sT e : TypeId) (hu : P.underlying dT = some (.slice e)) (hs : (P.info? e).map (·.size) = some 3) (b N : Nat) (vs : Nat → Value) (hH : HoldsN N w b vs) (o q dn dc sn sc m : Nat) (p : Option Addr) (us : Nat → Value)
    (hm : m = Nat.min sn dn) (hsrc : 0 < m → ∃ c c0, p = some ⟨c, c0, none⟩ ∧ ∀ j, j < m * 3 → w.cell? ⟨c, c0 + j, none⟩ = some (us (q + j))) (h1 : ∀ j, j < m * 3 → (us (q + j)).oneCell' = true) (ho : o + m * 3 ≤ N) (ty : TypeId) :
    (Builtin.copy_ #[dT, sT] ty #[.slice (some ⟨b, o, none⟩) dn dc, .slice p sn sc]).run P w = .ok (goInt m) (w.setCells b o (cellsOf us q (m * 3))) := by
  have hst := run_storeCells_cells (P := P) b o (cellsOf us q (m * 3)) 0 w (by intro j hj; rw [cellsOf_len] at hj; rw [Nat.add_zero, hH.cell _ (by omega)]; rfl) (by intro j hj; rw [cellsOf_len] at hj; rw [Nat.add_zero]; exact hH.frozen _ (by omega)) (by
    intro v hv
    obtain ⟨j, hj⟩ := List.getElem?_of_mem hv
    obtain ⟨k, rfl⟩ := cellsOf_some hj
    exact h1 j k)
  simp only [Nat.add_zero] at hst
  have hf : ∀ i : TypeInfo, i.size = 3 → (Builtin.firstCells i.size m (.slice p sn sc)).run P w = .ok (cellsOf us q (m * 3)).toArray w := by
    intro i hi
    rcases Nat.eq_zero_or_pos m with h0 | h0
    · subst h0
      cases p with
      | none => simp [Builtin.firstCells, cellsOf]
      | some a =>
        have := run_firstCells_some (P := P) w i.size 0 a sn sc [] (by simp) (fun j v hv => by simp at hv)
        simpa [cellsOf] using this
    · obtain ⟨c, c0, rfl, hc⟩ := hsrc h0
      exact run_firstCells_some (P := P) w i.size m ⟨c, c0, none⟩ sn sc (cellsOf us q (m * 3)) (by rw [cellsOf_len, hi]) (fun j v hv => by
        obtain ⟨hj, rfl⟩ := cellsOf_some hv
        rw [Addr.add_lit]
        exact hc j hj)
  cases hq : P.info? e with
  | none => simp [hq] at hs
  | some i =>
    have hi : i.size = 3 := by simpa [hq] using hs
    have hf' := hf i hi
    rw [hi] at hf'
    subst hm
    simp [Builtin.copy_, run_underlying hu, Builtin.lenOf, sizeOf, typeInfo, hq, hi, hf', hst]

/-- A new block holds its cells. -/
theorem HoldsN.newA (w : World) (cur : Array Value) (t : TypeId) : HoldsN cur.size (w.alloc (.cells cur t)) w.heap.size (fun i => (cur[i]?).getD undef) := by
  refine ⟨by simp, fun i hi => ⟨?_, World.frozen?_alloc_new _ _ _ _⟩⟩
  rw [World.cell?_alloc_new]
  simp [hi]
theorem shape_of_cell {w : World} {b i : Nat} {v : Value} (h : w.cell? ⟨b, i, none⟩ = some v) : ∃ t k, w.shape? b = some (t, k) ∧ k ≠ 0 := by
  unfold World.cell? at h
  unfold World.shape?
  cases hq : w.heap[b]? with
  | none => simp [hq] at h
  | some o =>
    cases o with
    | cells c e f =>
      simp [hq] at h
      refine ⟨e, c.size, rfl, ?_⟩
      obtain ⟨k, _⟩ := Array.getElem?_eq_some_iff.1 h
      omega
    | _ => simp [hq] at h
/-- The cells of pieces. -/
def pcsV (F U V : Nat → Int) (q : Nat) : Value := if q % 3 = 0 then .int .i64 (F (q / 3)) else if q % 3 = 1 then .int .i64 (U (q / 3)) else .int .i64 (V (q / 3))
theorem pcsV_one (F U V : Nat → Int) (q : Nat) : (pcsV F U V q).oneCell' = true := by
  unfold pcsV
  split
  · rfl
  · split <;> rfl
theorem pcsV_lies (F U V : Nat → Int) (n : Nat) : lies (pcsV F U V) n F U V := by
  intro i _
  unfold pcsV
  rw [if_pos (by omega), if_neg (by omega), if_pos (by omega), if_neg (by omega), if_neg (by omega), show i * 3 / 3 = i by omega, show (i * 3 + 1) / 3 = i by omega, show (i * 3 + 2) / 3 = i by omega]
  exact ⟨rfl, rfl, rfl⟩
theorem PcsAt.cells {w : World} {p : Option Addr} {n : Nat} {F U V : Nat → Int} (h : PcsAt w p n F U V) (hn : 0 < n) : ∃ c c0, p = some ⟨c, c0, none⟩ ∧ ∀ j, j < n * 3 → w.cell? ⟨c, c0 + j, none⟩ = some (pcsV F U V (0 + j)) := by
  rcases h with h | ⟨c, c0, hp, h⟩
  · omega
  · refine ⟨c, c0, hp, fun j hj => ?_⟩
    have g := h (j / 3) (by omega)
    rw [Nat.zero_add]
    unfold pcsV
    rcases (show j % 3 = 0 ∨ j % 3 = 1 ∨ j % 3 = 2 by omega) with k | k | k
    · rw [if_pos k, show c0 + j = c0 + j / 3 * 3 by omega]; exact g.1
    · rw [if_neg (by omega), if_pos k, show c0 + j = c0 + j / 3 * 3 + 1 by omega]; exact g.2.1
    · rw [if_neg (by omega), if_neg (by omega), show c0 + j = c0 + j / 3 * 3 + 2 by omega]; exact g.2.2
theorem HoldsN.pcs {N : Nat} {w : World} {b : Nat} {vs : Nat → Value} {n : Nat} {F U V : Nat → Int} (h : HoldsN N w b vs) (hN : n * 3 ≤ N) (hl : lies vs n F U V) : PcsAt w (some ⟨b, 0, none⟩) n F U V :=
  Or.inr ⟨b, 0, rfl, fun i hi => by rw [Nat.zero_add]; exact h.pc (by omega) (hl i hi)⟩
theorem lies.congr {n : Nat} {F U V : Nat → Int} {vs ys : Nat → Value} (h : lies vs n F U V) (e : ∀ q, q < n * 3 → ys q = vs q) : lies ys n F U V := fun i hi => by
  rw [e _ (by omega), e _ (by omega), e _ (by omega)]
  exact h i hi

theorem run_append_zeros_grow {P : Program} (w : World) (t tn ty e : TypeId) (i : TypeInfo) (z : Value) (k kn : IntKind) (ht : P.underlying t = some (.slice e)) (htn : P.underlying tn = some (.int kn)) (hi : P.info? e = some i) (hz : i.zero = some z)
    (b : Addr) (sLen sCap : Nat) (olds : List Value) (hlo : olds.length = sLen * i.size) (holds : ∀ j v, olds[j]? = some v → w.cell? (b.add j) = some v)
    (n : Nat) (h0 : 0 < n) (hs : 0 < i.size) (hg : sCap < sLen + n) (h63 : ((sLen + n : Nat) : Int) ≤ 9223372036854775807) (h48 : 2 * (sLen + n) * i.bytes ≤ 281474976710656) :
    (Builtin.append_ #[t, tn] ty #[.slice (some b) sLen sCap, .int k n]).run P w =
      .ok (.slice (some ⟨w.heap.size, 0, none⟩) (sLen + n) (grownCap w (sLen + n) sCap e)) (w.drew.alloc (.cells (olds.toArray ++ Builtin.zeroCells z.cells n ++ Builtin.zeroCells z.cells (grownCap w (sLen + n) sCap e - (sLen + n))) e)) := by
  have hn : n ≠ 0 := by omega
  have hnot : ¬ (sLen + n ≤ sCap) := by omega
  have hw : IntKind.i64.wrap (n : Int) = n := by rw [IntKind.wrap_i64]; omega
  have h63' : ¬ (9223372036854775807 < (sLen : Int) + (n : Int)) := by omega
  have hb1 : Builtin.nextslicecap (sLen + n) sCap * i.bytes ≤ 281474976710656 := Nat.le_trans (Nat.mul_le_mul_right _ (nextslicecap_le hg)) h48
  have h48' : ¬ (281474976710656 < Builtin.nextslicecap (sLen + n) sCap * i.bytes) := by omega
  have hb2 : n * i.bytes ≤ 281474976710656 := Nat.le_trans (Nat.mul_le_mul_right _ (by omega)) h48
  have h48i : ¬ (281474976710656 < (n : Int) * (i.bytes : Int)) := by
    rw [← Int.natCast_mul]
    omega
  have hneg : ¬ ((n : Int) < 0) := by omega
  have hns : ¬ (n * i.size = 0) := Nat.mul_ne_zero hn (by omega)
  have hfo := run_firstCells_some (P := P) w.drew i.size sLen b sLen sCap olds hlo (by simpa using holds)
  simp [Builtin.append_, run_underlying ht, run_underlying htn, sizeOf, typeInfo, zeroValue, hi, hz, asInt, asIntOf, hw, hneg, hns, hnot, h63', h48', h48i, Question.forced, hfo, newRow, grownCap]

theorem run_append_room3 {P : Program} (w : World) (t ty e : TypeId) (i : TypeInfo) (ht : P.underlying t = some (.slice e)) (hi : P.info? e = some i) (hi3 : i.size = 3) (b N : Nat) (vs : Nat → Value) (hH : HoldsN N w b vs) (n cap c p sc : Nat) (us : Nat → Value)
    (hsrc : ∀ j, j < 3 → w.cell? ⟨c, p + j, none⟩ = some (us (p + j))) (h1 : ∀ j, j < 3 → (us (p + j)).oneCell' = true) (hr : n + 1 ≤ cap) (ho : n * 3 + 3 ≤ N) :
    (Builtin.append_ #[t, t] ty #[.slice (some ⟨b, 0, none⟩) n cap, .slice (some ⟨c, p, none⟩) 1 sc]).run P w = .ok (.slice (some ⟨b, 0, none⟩) (n + 1) cap) (w.setCells b (n * 3) (cellsOf us p 3)) := by
  have hf := run_firstCells_some (P := P) w i.size 1 ⟨c, p, none⟩ 1 sc (cellsOf us p 3) (by rw [cellsOf_len, hi3]) (fun j v hv => by
    obtain ⟨hj, rfl⟩ := cellsOf_some hv
    rw [Addr.add_lit]
    exact hsrc j hj)
  have hst := run_storeCells_cells (P := P) b (n * 3) (cellsOf us p 3) 0 w (by intro j hj; rw [cellsOf_len] at hj; rw [Nat.add_zero, hH.cell _ (by omega)]; rfl) (by intro j hj; rw [cellsOf_len] at hj; rw [Nat.add_zero]; exact hH.frozen _ (by omega)) (by
    intro v hv
    obtain ⟨j, hj⟩ := List.getElem?_of_mem hv
    obtain ⟨k, rfl⟩ := cellsOf_some hj
    exact h1 j k)
  simp only [Nat.add_zero] at hst
  rw [hi3] at hf
  simp [Builtin.append_, run_underlying ht, sizeOf, typeInfo, hi, hi3, Builtin.lenOf, hr, hf, Addr.add_lit, hst]

theorem lies_one {vs : Nat → Value} {n : Nat} {F U V : Nat → Int} (h : lies vs n F U V) {q : Nat} (hq : q < n * 3) : (vs q).oneCell' = true := by
  have g := h (q / 3) (by omega)
  rcases (show q = q / 3 * 3 ∨ q = q / 3 * 3 + 1 ∨ q = q / 3 * 3 + 2 by omega) with k | k | k
  · rw [k, g.1]; rfl
  · rw [k, g.2.1]; rfl
  · rw [k, g.2.2]; rfl
/-- The cells of one piece. -/
def one3 (f u v : Int) (q : Nat) : Value := if q = 0 then .int .i64 f else if q = 1 then .int .i64 u else .int .i64 v
theorem one3_cell {w : World} {g : Nat} {f u v : Int} (h : Pc w g 0 f u v) {j : Nat} (hj : j < 3) : w.cell? ⟨g, 0 + j, none⟩ = some (one3 f u v (0 + j)) := by
  rcases (show j = 0 ∨ j = 1 ∨ j = 2 by omega) with k | k | k <;> subst k
  · exact h.1
  · exact h.2.1
  · exact h.2.2
theorem one3_one (f u v : Int) (q : Nat) : (one3 f u v q).oneCell' = true := by
  unfold one3
  split
  · rfl
  · split <;> rfl
/-- The pieces from m on moved one further, and a piece put at m. -/
theorem moved_lies {n m : Nat} {F U V : Nat → Int} {vs ys : Nat → Value} {f u v : Int} (hl : lies vs n F U V) (hm : m ≤ n) (hy : ∀ q, q < m * 3 → ys q = vs q) (h2 : ∀ q, m * 3 ≤ q → q < n * 3 → ys (q + 3) = vs q) (h3 : ∀ j, j < 3 → ys (m * 3 + j) = one3 f u v j) :
    lies ys (n + 1) (ins F m f) (ins U m u) (ins V m v) := by
  intro i hi
  rcases (show i < m ∨ i = m ∨ m < i by omega) with k | k | k
  · rw [ins, ins, ins, if_pos k, if_pos k, if_pos k, hy _ (by omega), hy _ (by omega), hy _ (by omega)]
    exact hl i (by omega)
  · subst k
    rw [ins, ins, ins, if_neg (by omega), if_pos rfl, if_neg (by omega), if_pos rfl, if_neg (by omega), if_pos rfl]
    exact ⟨h3 0 (by omega), h3 1 (by omega), h3 2 (by omega)⟩
  · obtain ⟨j, rfl⟩ : ∃ j, i = j + 1 := ⟨i - 1, by omega⟩
    have g := hl j (by omega)
    have z : ¬ j + 1 < m := by omega
    have z2 : ¬ j + 1 = m := by omega
    rw [ins, ins, ins, if_neg z, if_neg z2, if_neg z, if_neg z2, if_neg z, if_neg z2, Nat.add_sub_cancel, show (j + 1) * 3 = j * 3 + 3 by omega, show j * 3 + 3 + 1 = j * 3 + 1 + 3 by omega, show j * 3 + 3 + 2 = j * 3 + 2 + 3 by omega, h2 _ (by omega) (by omega), h2 _ (by omega) (by omega), h2 _ (by omega) (by omega)]
    exact g

theorem info47 : (Try.prog.info? 47).map (fun i => (i.zero, i.size, i.bytes)) = some (some (.agg #[.int .i64 0, .int .i64 0, .int .i64 0]), 3, 24) := by kernel_rfl

/-- A list of pieces that the call itself made, or nil. -/
def LsAt (B : Nat) (w : World) (p : Option Addr) (n cap : Nat) (F U V : Nat → Int) : Prop :=
  (p = none ∧ n = 0 ∧ cap = 0) ∨ ∃ b N vs, p = some ⟨b, 0, none⟩ ∧ HoldsN N w b vs ∧ n ≤ cap ∧ cap * 3 ≤ N ∧ lies vs n F U V ∧ B ≤ b
theorem LsAt.next {B n cap : Nat} {w w' : World} {p : Option Addr} {F U V : Nat → Int} (h : LsAt B w p n cap F U V) (hb : Below w.heap.size w w') : LsAt B w' p n cap F U V := by
  rcases h with h | ⟨b, N, vs, hp, hH, h⟩
  · exact Or.inl h
  · exact Or.inr ⟨b, N, vs, hp, hH.next hb, h⟩
theorem LsAt.pcs {B n cap : Nat} {w : World} {p : Option Addr} {F U V : Nat → Int} (h : LsAt B w p n cap F U V) : PcsAt w p n F U V := by
  rcases h with h | ⟨b, N, vs, rfl, hH, h1, h2, h3, _⟩
  · exact Or.inl h.2.1
  · exact hH.pcs (by omega) h3
theorem LsAt.mono {B B' n cap : Nat} {w : World} {p : Option Addr} {F U V : Nat → Int} (h : LsAt B w p n cap F U V) (hB : B' ≤ B) : LsAt B' w p n cap F U V := by
  rcases h with h | ⟨b, N, vs, hp, hH, h1, h2, h3, h4⟩
  · exact Or.inl h
  · exact Or.inr ⟨b, N, vs, hp, hH, h1, h2, h3, by omega⟩
/-- A function changed at one place. -/
def upd (f : Nat → Int) (m : Nat) (x : Int) (i : Nat) : Int := if i = m then x else f i
theorem snoc_lies {n : Nat} {F U V : Nat → Int} {vs ys : Nat → Value} {f u v : Int} (hl : lies vs n F U V) (hy : ∀ q, q < n * 3 → ys q = vs q) (h3 : ∀ j, j < 3 → ys (n * 3 + j) = one3 f u v j) :
    lies ys (n + 1) (upd F n f) (upd U n u) (upd V n v) := by
  intro i hi
  rcases (show i < n ∨ i = n by omega) with k | k
  · have z : ¬ i = n := by omega
    rw [upd, upd, upd, if_neg z, if_neg z, if_neg z, hy _ (by omega), hy _ (by omega), hy _ (by omega)]
    exact hl i k
  · subst k
    rw [upd, upd, upd, if_pos rfl, if_pos rfl, if_pos rfl]
    exact ⟨h3 0 (by omega), h3 1 (by omega), h3 2 (by omega)⟩
theorem toArray3 (w : World) (xs ys : List Value) (t : TypeId) : HoldsN (xs ++ ys).length (w.alloc (.cells (xs.toArray ++ ys.toArray) t)) w.heap.size (fun i => ((xs ++ ys)[i]?).getD undef) := by
  have := HoldsN.newA w (xs ++ ys).toArray t
  simpa using this

/-- What append answers for a list and one piece. -/
def Snoc (B n : Nat) (F U V : Nat → Int) (f u v : Int) (w : World) (r : Value) (w' : World) : Prop :=
  ∃ p2 cap2, r = .slice p2 (n + 1) cap2 ∧ LsAt B w' p2 (n + 1) cap2 (upd F n f) (upd U n u) (upd V n v) ∧ Below B w w'
theorem run_append_piece (B n cap : Nat) (w : World) (p : Option Addr) (F U V : Nat → Int) (hL : LsAt B w p n cap F U V) (hn : (n : Int) ≤ 1048576) (c sc : Nat) (f u v : Int) (hP : Pc w c 0 f u v) (hB : B ≤ w.heap.size) (ty : TypeId) :
    ∃ r w', (Builtin.append_ #[22, 22] ty #[.slice p n cap, .slice (some ⟨c, 0, none⟩) 1 sc]).run Try.prog w = .ok r w' ∧ Snoc B n F U V f u v w r w' := by
  obtain ⟨i0, hi, hz0, hz1, hz2⟩ := info_parts info47
  have hnews : ∀ j u', (cellsOf (one3 f u v) 0 3)[j]? = some u' → w.cell? ((⟨c, 0, none⟩ : Addr).add j) = some u' := fun j u' hu => by
    obtain ⟨hj, rfl⟩ := cellsOf_some hu
    rw [Addr.add_lit]
    exact one3_cell hP hj
  have hone : ∀ j, j < 3 → (cellsOf (one3 f u v) 0 3)[j]? = some (one3 f u v j) := fun j hj => by rw [cellsOf_get _ _ hj, Nat.zero_add]
  rcases hL with ⟨rfl, rfl, rfl⟩ | ⟨b, N, vs, rfl, hH, h1, h2, h3, h4⟩
  · refine ⟨_, _, run_append_nil w 22 ty 47 i0 _ Try.underlying22 hi hz0 ⟨c, 0, none⟩ 1 sc (cellsOf (one3 f u v) 0 3) (by rw [cellsOf_len, hz1]) hnews (by omega) (by omega) (by rw [hz2]; omega), _, _, rfl, Or.inr ⟨w.heap.size, _, _, rfl, HoldsN.newA w.drew _ 47, grownCap_ge _ _ _ _, ?_, ?_, hB⟩, ?_⟩
    · have g := grownCap_ge w 1 0 47
      rw [Array.size_append, size_zeroCells]
      simp only [List.size_toArray, cellsOf_len, Value.cells, List.size_toArray, List.length_cons, List.length_nil]
      omega
    · refine snoc_lies (vs := fun _ => undef) (fun i hi => absurd hi (by omega)) (fun q hq => absurd hq (by omega)) (fun j hj => ?_)
      simp only [Nat.zero_mul, Nat.zero_add]
      rw [Array.getElem?_append_left (by simp only [List.size_toArray, cellsOf_len]; omega), List.getElem?_toArray, hone j hj]
      rfl
    · exact ((Below.refl B w).drew).alloc (by simpa using hB) _
  · by_cases hr : n + 1 ≤ cap
    · refine ⟨_, _, run_append_room3 w 22 ty 47 i0 Try.underlying22 hi hz1 b N vs hH n cap c 0 sc (one3 f u v) (fun j hj => one3_cell hP hj) (fun j _ => one3_one _ _ _ _) hr (by omega), _, _, rfl, Or.inr ⟨b, N, _, rfl, hH.laid (one3 f u v) (n * 3) 0 3 (by omega), hr, h2, ?_, h4⟩, setCells_below h4 _ _ _ (Below.refl B w)⟩
      refine snoc_lies h3 (fun q hq => ?_) (fun j hj => ?_)
      · rw [laid, if_neg (by omega)]
      · rw [laid, if_pos (by omega), show 0 + (n * 3 + j - n * 3) = j by omega]
    · have holds : ∀ j u', (cellsOf vs 0 (n * 3))[j]? = some u' → w.cell? ((⟨b, 0, none⟩ : Addr).add j) = some u' := fun j u' hu => by
        obtain ⟨hj, rfl⟩ := cellsOf_some hu
        rw [Addr.add_lit]
        exact hH.cell _ (by omega)
      have hcap : Builtin.nextslicecap (n + 1) cap * i0.bytes ≤ 281474976710656 := by
        have := nextslicecap_le (need := n + 1) (old := cap) (by omega)
        rw [hz2]
        omega
      refine ⟨_, _, run_append_grow w 22 ty 47 i0 _ Try.underlying22 hi hz0 ⟨b, 0, none⟩ n cap (cellsOf vs 0 (n * 3)) (by rw [cellsOf_len, hz1]) holds ⟨c, 0, none⟩ 1 sc (cellsOf (one3 f u v) 0 3) (by rw [cellsOf_len, hz1]) hnews (by omega) (by omega) hcap, _, _, rfl,
        Or.inr ⟨w.heap.size, _, _, rfl, HoldsN.newA w.drew _ 47, grownCap_ge _ _ _ _, ?_, ?_, hB⟩, ?_⟩
      · have g := grownCap_ge w (n + 1) cap 47
        rw [Array.size_append, Array.size_append, size_zeroCells]
        simp only [List.size_toArray, cellsOf_len, Value.cells, List.size_toArray, List.length_cons, List.length_nil]
        omega
      · refine snoc_lies h3 (fun q hq => ?_) (fun j hj => ?_)
        · show ((_ : Option Value).getD undef) = _
          rw [Array.getElem?_append_left (by simp only [Array.size_append, List.size_toArray, cellsOf_len]; omega), Array.getElem?_append_left (by simp only [List.size_toArray, cellsOf_len]; omega), List.getElem?_toArray, cellsOf_get _ _ hq, Nat.zero_add]
          rfl
        · show ((_ : Option Value).getD undef) = _
          rw [Array.getElem?_append_left (by simp only [Array.size_append, List.size_toArray, cellsOf_len]; omega), Array.getElem?_append_right (by simp only [List.size_toArray, cellsOf_len]; omega), List.getElem?_toArray, List.size_toArray, cellsOf_len, show n * 3 + j - n * 3 = j by omega, hone j hj]
          rfl
      · exact ((Below.refl B w).drew).alloc (by simpa using hB) _

/-- The law at the operation. -/
theorem wpList_append_piece {ops : Array Oper} {rest : List Oper} {o : Oper} {a : Act} {Q : Exit → Act → World → Prop} (hgd : o.guard = none) (s x : Operand)
    (ho : o.op = .call { callee := .builtin .append, args := #[s, x], argTypes := #[22, 22] }) (B n cap : Nat) (w : World) (p : Option Addr) (F U V : Nat → Int) (hs : a.eval s = .slice p n cap) (hL : LsAt B w p n cap F U V) (hn : (n : Int) ≤ 1048576)
    (c sc : Nat) (f u v : Int) (hx : a.eval x = .slice (some ⟨c, 0, none⟩) 1 sc) (hP : Pc w c 0 f u v) (hB : B ≤ w.heap.size)
    (h : ∀ p2 cap2 w', LsAt B w' p2 (n + 1) cap2 (upd F n f) (upd U n u) (upd V n v) → Below B w w' → wpList Try.prog ops Q rest (a.put o.dst (.slice p2 (n + 1) cap2)) w') : wpList Try.prog ops Q (o :: rest) a w := by
  obtain ⟨r, w', hr, p2, cap2, rfl, h1, h2⟩ := run_append_piece B n cap w p F U V hL hn c sc f u v hP hB o.type
  exact Lib.wpList_append_run w hgd s x 22 22 ho _ _ hs hx _ _ hr (h p2 cap2 w' h1 h2)

end Go.Proofs.Ytcgjhbjbfdbfaaa
