/-
  The parts into which the bounds of two timelines divide the days, with the values in each. No statement of the seat is proved here.
-/
import Derived.Test.YtcgjhbjbfdbfaaaLy
import Derived.BigRegion
namespace Go.Proofs.Ytcgjhbjbfdbfaaa
open Go.RowKit

theorem info61 : (Try.prog.info? 61).map (fun i => (i.zero, i.size, i.bytes)) = some (some (.agg #[.int .i64 0, .int .i64 0, .int .i64 0, .bool false, .int .i64 0, .bool false]), 6, 48) := by kernel_rfl

theorem sh_sh (f : Nat → Int) (r s : Nat) : sh (sh f r) s = sh f (r + s) := by
  funext i
  show f (i + s + r) = f (i + (r + s))
  rw [show i + s + r = i + (r + s) by omega]
/-- What the first piece that has not ended says of a day. -/
theorem rest_value {n r : Nat} {F U V : Nat → Int} {d A : Int} {O : Bool} (hW : Wk n F U) (hr : r ≤ n) (hl : ∀ i, i < r → U i ≤ d) (hs : r = n ∨ (r < n ∧ d < U r)) (hA : AtRes n F U V d A O) :
    (0 < n - r ∧ sh F r 0 ≤ d ∧ d < sh U r 0 ∧ A = sh V r 0 ∧ O = true) ∨ ((n - r = 0 ∨ ¬ (sh F r 0 ≤ d ∧ d < sh U r 0)) ∧ A = 0 ∧ O = false) := by
  have e : ∀ f : Nat → Int, sh f r 0 = f r := fun f => by show f (0 + r) = f r; rw [Nat.zero_add]
  rw [e, e, e]
  rcases hA with ⟨rfl, i, i1, i2, i3, i4⟩ | ⟨rfl, rfl, h⟩
  · have hir : i = r := by
      rcases (show i < r ∨ i = r ∨ r < i by omega) with k | k | k
      · have := hl i k; omega
      · exact k
      · have := hW.lt k i1; omega
    subst hir
    exact Or.inl ⟨by omega, i2, i3, i4.symm, rfl⟩
  · refine Or.inr ⟨?_, rfl, rfl⟩
    rcases hs with k | k
    · exact Or.inl (by omega)
    · exact Or.inr (fun g => h (V r) ⟨r, k.1, g.1, g.2, rfl⟩)

/-- The six cells of a part. -/
def part6 (f u a : Int) (x : Bool) (b : Int) (y : Bool) : List Value := [.int .i64 f, .int .i64 u, .int .i64 a, .bool x, .int .i64 b, .bool y]
/-- Cells of the parts. -/
def PartCells (xs : List Value) (k : Nat) (T va : Nat → Int) (oa : Nat → Bool) (vb : Nat → Int) (ob : Nat → Bool) : Prop :=
  xs.length = k * 6 ∧ ∀ i, i < k → ∀ j, j < 6 → xs[i * 6 + j]? = (part6 (T i) (T (i + 1)) (va i) (oa i) (vb i) (ob i))[j]?
theorem PartCells.snoc {xs : List Value} {k : Nat} {T va : Nat → Int} {oa : Nat → Bool} {vb : Nat → Int} {ob : Nat → Bool} (h : PartCells xs k T va oa vb ob) : PartCells (xs ++ part6 (T k) (T (k + 1)) (va k) (oa k) (vb k) (ob k)) (k + 1) T va oa vb ob := by
  refine ⟨by simp [h.1, part6]; omega, fun i hi j hj => ?_⟩
  rcases (show i < k ∨ i = k by omega) with c | c
  · rw [List.getElem?_append_left (by rw [h.1]; omega)]
    exact h.2 i c j hj
  · subst c
    rw [List.getElem?_append_right (by rw [h.1]; omega), h.1, show i * 6 + j - i * 6 = j by omega]

/-- A list from some piece on: what went before has ended by the days to come. -/
def Left (p0 : Option Addr) (n : Nat) (F U V : Nat → Int) (k L : Nat) (T : Nat → Int) (v : Value) : Prop :=
  ∃ r p c, v = .slice p (n - r) c ∧ n - r ≤ c ∧ r ≤ n ∧ Tails p0 n F U V r p ∧ ∀ i, i < r → ∀ j, k ≤ j + 1 → j < L → U i ≤ T j
/-- remaining, and firstAt behind it. -/
theorem left_step {w0 : World} {p0 : Option Addr} {n : Nat} {F U V : Nat → Int} {k L : Nat} {T : Nat → Int} {v : Value} {A : Int} {O : Bool} (h : Left p0 n F U V k L T v) (hP : PcsAt w0 p0 n F U V) (hT : ∀ i j, i < j → j < L → T i < T j) (hW : Wk n F U) (hn : (n : Int) ≤ 2000) (hk : 1 ≤ k) (hkL : k < L) (hA : AtRes n F U V (T (k - 1)) A O) :
    Calls Try.prog 52 #[v, .int .i64 (T (k - 1))] w0 fun e w' => Below w0.heap.size w0 w' ∧ ∃ v', e = .returned v' ∧ Left p0 n F U V (k + 1) L T v' ∧
      ∀ w1, PcsAt w1 p0 n F U V → Calls Try.prog 53 #[v', .int .i64 (T (k - 1))] w1 fun e w2 => e = .returned (.agg #[.int .i64 A, .bool O]) ∧ Below w1.heap.size w1 w2 := by
  obtain ⟨r, p, c, rfl, h2, h3, h4, h5⟩ := h
  obtain ⟨s, s1, s2, s3⟩ := rest_at (n - r) (sh U r) (T (k - 1))
  refine (remaining_loop p (n - r) c s (sh F r) (sh U r) (sh V r) (T (k - 1)) w0 (h4 w0 hP) h2 s1 s2 s3).mono ?_
  rintro e w' ⟨p', c', rfl, g1, g2, g3⟩
  unfold Tails at g2
  rw [sh_sh, sh_sh, sh_sh] at g2
  rw [show n - r - s = n - (r + s) by omega] at g1 g2 ⊢
  have hl : ∀ i, i < r + s → U i ≤ T (k - 1) := fun i hi => by
    rcases (show i < r ∨ r ≤ i by omega) with z | z
    · exact h5 i z (k - 1) (by omega) (by omega)
    · have := s2 (i - r) (by omega)
      unfold sh at this
      rwa [show i - r + r = i by omega] at this
  refine ⟨g3, _, rfl, ⟨r + s, p', c', rfl, g1, by omega, fun wz hz => g2 wz (h4 wz hz), fun i hi j hj hjL => ?_⟩, fun w1 hb => ?_⟩
  · have := hl i hi
    have := hT (k - 1) j (by omega) hjL
    omega
  · refine firstAt_any p' (n - (r + s)) c' _ _ _ _ A O w1 (g2 w1 (h4 w1 hb)) (by omega) (rest_value hW (by omega) hl ?_ hA)
    rcases s3 with z | z
    · exact Or.inl (by omega)
    · refine Or.inr ⟨by omega, ?_⟩
      have := z.2
      unfold sh at this
      rwa [show s + r = r + s by omega] at this

theorem step_appends {P : Program} {ops : Array Oper} {o : Oper} {a : Act} {w : World} {K : Act → World → Prop} {Q : Exit → Act → World → Prop} {E : Prop} (hgd : o.guard = none) (s x : Operand) (t u : TypeId) (ho : o.op = .call { callee := .builtin .append, args := #[s, x], argTypes := #[t, u] })
    (vs vx : Value) (hs : a.eval s = vs) (hx : a.eval x = vx) {r : Value} {w' : World} (hr : (Builtin.append_ #[t, u] o.type #[vs, vx]).run P w = .ok r w') (h : K (a.put o.dst r) w') : if Region.wanted o (yielded ops a.tmps) = true then Oper.wp P o a w K Q else E := by
  rw [if_pos (show Region.wanted o (yielded ops a.tmps) = true by simp [Region.wanted, hgd])]
  exact Lib.wp_append_run w s x t u ho vs vx hs hx r w' hr h
theorem own_next {w w' : World} {B : Nat} {e : TypeId} {size : Nat} {v : Value} {n : Nat} {xs : List Value} (h : w.ownsRow B e size v n xs) (hb : Below w.heap.size w w') : w'.ownsRow B e size v n xs :=
  h.kept (row := none) ⟨hb.os, hb.tape, hb.output, hb.size, fun k hk _ => hb.block k hk⟩ (by cases v.ownBlock <;> simp)
theorem part6_cells (w : World) (f u a : Int) (x : Bool) (b : Int) (y : Bool) : ∀ j v, (part6 f u a x b y)[j]? = some v → (w.alloc (.cells (part6 f u a x b y).toArray 61)).cell? ((⟨w.heap.size, 0, none⟩ : Addr).add j) = some v := fun j v h => by
  rw [Addr.add_lit, Nat.zero_add, World.cell?_alloc_new]
  simpa using h
theorem part6_one (f u a : Int) (x : Bool) (b : Int) (y : Bool) : ∀ v ∈ part6 f u a x b y, v.oneCell' = true := by
  intro v hv
  simp only [part6, List.mem_cons, List.not_mem_nil, or_false] at hv
  rcases hv with h | h | h | h | h | h <;> subst h <;> rfl

theorem append_part {w8 : World} {B k : Nat} {u8 : Value} {xs : List Value} {c : Nat} (f u a : Int) (x : Bool) (b : Int) (y : Bool) (hown : w8.ownsRow B 61 6 u8 k xs) (hB : B ≤ w8.heap.size) (hk : k ≤ 8000) (hgc : ∀ g, u8.ownBlock = some g → g < c) (hc : c < w8.heap.size) (ty : TypeId) :
    ∃ v9 w9, (Builtin.append_ #[55, 55] ty #[u8, .slice (some ⟨w8.heap.size, 0, none⟩) 1 1]).run Try.prog (w8.alloc (.cells (part6 f u a x b y).toArray 61)) = .ok v9 w9 ∧ w9.ownsRow B 61 6 v9 (k + 1) (xs ++ part6 f u a x b y) ∧ Below B w8 w9 ∧ (∀ i, w9.cell? ⟨c, i, none⟩ = w8.cell? ⟨c, i, none⟩) := by
  obtain ⟨i0, hi, hz0, hz1, hz2⟩ := info_parts info61
  have hz : (w8.alloc (.cells (part6 f u a x b y).toArray 61)).heap.size = w8.heap.size + 1 := by simp
  obtain ⟨v9, w9, h1, h2, h3, _⟩ := run_append_own (P := Try.prog) (w8.alloc (.cells (part6 f u a x b y).toArray 61)) B 55 ty 61 i0 _ 6 48 Try.underlying55 hi hz0 hz1 hz2 rfl (by decide) u8 k xs (hown.alloc _) ⟨w8.heap.size, 0, none⟩ 1 1 (part6 f u a x b y) rfl (part6_cells w8 f u a x b y) (part6_one f u a x b y) (by unfold maxLen; omega) (by omega) (by omega)
  refine ⟨v9, w9, h1, h2, ((Below.refl B w8).alloc hB _).grown h3 (by omega) (fun g e => (hown.lt g e).1), fun i => ?_⟩
  have h4 : w9.heap[c]? = w8.heap[c]? := (h3.block c (by omega) (fun e => by have := hgc c e.symm; omega)).trans (Below.heap_alloc w8 _ c hc)
  exact World.cell?_of_block h4

set_option maxRecDepth 100000 in
set_option maxHeartbeats 8000000 in
theorem partsOf_loop (p : Option Addr) (n cap : Nat) (F U V : Nat → Int) (q : Option Addr) (m capq : Nat) (G H I : Nat → Int) (va : Int → Int) (oa : Int → Bool) (vb : Int → Int) (ob : Int → Bool) (w : World) (hP : PcsAt w p n F U V) (hQ : PcsAt w q m G H I) (hcp : n ≤ cap) (hcq : m ≤ capq) (hn : n ≤ 500) (hm : m ≤ 500)
    (hT : Tl n F U V) (hT2 : Tl m G H I) (ha : ∀ d, AtRes n F U V d (va d) (oa d)) (hb : ∀ d, AtRes m G H I d (vb d) (ob d)) :
    Calls Try.prog 40 #[.slice p n cap, .slice q m capq] w fun e w' => ∃ v L T xs, e = .returned (.tuple #[v, .int .i64 0]) ∧ BoundsOf n F U m G H L T ∧ w'.ownsRow w.heap.size 61 6 v (L - 1) xs ∧
      PartCells xs (L - 1) T (fun i => va (T i)) (fun i => oa (T i)) (fun i => vb (T i)) (fun i => ob (T i)) ∧ Below w.heap.size w w' := by
  have HP := Lib.hid hP; have HQ := Lib.hid hQ; have A := Lib.hid hT; have B := Lib.hid hT2; have HA := Lib.hid ha; have HB := Lib.hid hb
  have C1 := Lib.hid (checks_ok p n cap F U V (by omega) hT)
  have C2 := Lib.hid (checks_ok q m capq G H I (by omega) hT2)
  obtain ⟨i0, hi, hz0, hz1, hz2⟩ := info_parts info61
  clear hP hQ hT hT2 ha hb
  go_enter Try.func40, Try.ntmps40
  go_wp2_with fail
  refine (C1.out _ HP.out).mono ?_
  rintro e w1 ⟨rfl, hb⟩
  have P1 := Lib.hid (HP.out.below hb); have Q1 := Lib.hid (HQ.out.below hb); have B1 := Lib.hid hb
  clear hb HP HQ
  go_wp2_with fail
  refine (C2.out _ Q1.out).mono ?_
  rintro e w2 ⟨rfl, hb⟩
  have P2 := Lib.hid (P1.out.below hb); have Q2 := Lib.hid (Q1.out.below hb); have B2 := Lib.hid (B1.out.trans (hb.mono B1.out.size))
  clear hb P1 Q1 B1
  go_wp2_with fail
  refine (boundsOf_ok p n cap F U V q m capq G H I _ P2.out Q2.out (by omega) (by omega) A.out.1.1 B.out.1.1).mono ?_
  rintro e w3 ⟨pb, L, capb, T, rfl, hT3, hb, hBo⟩
  have P3 := Lib.hid (P2.out.below hb); have Q3 := Lib.hid (Q2.out.below hb); have B3 := Lib.hid (B2.out.trans (hb.mono B2.out.size))
  have T3 := Lib.hid hT3; have BO := Lib.hid hBo
  have hL8 : L ≤ 8000 := by have := hBo.2.2; omega
  clear hb P2 Q2 B2 hT3 hBo
  go_wp2_with fail
  go_loopw [0, 1, 8, 10] (fun v0 v1 v8 v10 wr => ∃ (k : Nat) (xs : List Value), 1 ≤ k ∧ (k ≤ L ∨ k = 1) ∧ v10 = .int .i64 k ∧ Left p n F U V k L T v0 ∧ Left q m G H I k L T v1 ∧ wr.ownsRow w3.heap.size 61 6 v8 (k - 1) xs ∧
      PartCells xs (k - 1) T (fun i => va (T i)) (fun i => oa (T i)) (fun i => vb (T i)) (fun i => ob (T i)) ∧ Below w3.heap.size w3 wr) (fun _ _ _ i _ => L - iv i)
  case atStart => exact ⟨1, [], Nat.le_refl _, Or.inr rfl, rfl, ⟨0, p, cap, rfl, hcp, Nat.zero_le _, fun _ h => h, fun i hi => absurd hi (by omega)⟩, ⟨0, q, capq, rfl, hcq, Nat.zero_le _, fun _ h => h, fun i hi => absurd hi (by omega)⟩, World.ownsRow_nil _ _ _ _, ⟨rfl, fun i hi => absurd hi (by omega)⟩, Below.refl _ _⟩
  case round =>
    obtain ⟨k, xs, hk1, hkL, rfl, hl1, hl2, hown, hpx, hbw⟩ := hrel
    have NL := Lib.hid hl1; have NM := Lib.hid hl2; have NO := Lib.hid hown; have NX := Lib.hid hpx; have NB := Lib.hid hbw
    have IT := Lib.hid (T3.out.next hbw)
    clear hl1 hl2 hown hpx hbw
    by_cases hkn : k < L
    · obtain ⟨bb, rfl, hc⟩ : ∃ bb, pb = some ⟨bb, 0, none⟩ ∧ ∀ i, i < L → wr.cell? ⟨bb, i, none⟩ = some (.int .i64 (T i)) := by
        rcases IT.out with h | h
        · omega
        · exact h
      have c0 := hc (k - 1) (by omega); have c1 := hc k hkn
      have zbb : bb < wr.heap.size := World.block_lt_of_cell? wr _ c0
      clear hc
      have hkd : decide ((k : Int) < (L : Int)) = true := by simp; omega
      have hkz : (k : Int) < (L : Int) := by omega
      have hj1 : (0 : Int) ≤ (k : Int) - 1 := by omega
      have hj2 : (k : Int) - 1 < (L : Int) := by omega
      have hj3 : ((k : Int) - 1).toNat = k - 1 := by omega
      have hj4 : IntKind.i64.wrap ((k : Int) - 1) = (k : Int) - 1 := IntWalk.i64_in _ (by omega)
      have hk2 : (1 : Int) ≤ (k : Int) := by omega
      have hkl2 : k ≤ L := by omega
      go_wp2_with fail
      go_region
      have BX : Hid (Below wr.heap.size wr (wr.alloc (.cells #[.int .i64 (T (k - 1)), .int .i64 (T k)] 33)).drew) := ((Below.refl _ _).alloc (Nat.le_refl _) _).drew
      have SX : Hid (SpanAt (wr.alloc (.cells #[.int .i64 (T (k - 1)), .int .i64 (T k)] 33)).drew wr.heap.size (T (k - 1)) (T k)) := ⟨World.cell?_alloc_new wr _ 33 0, World.cell?_alloc_new wr _ 33 1⟩
      have NO4 : Hid ((wr.alloc (.cells #[.int .i64 (T (k - 1)), .int .i64 (T k)] 33)).drew.ownsRow w3.heap.size 61 6 u8 (k - 1) xs) := NO.out.alloc _
      have NB4 := Lib.hid (NB.out.trans (BX.out.mono NB.out.size))
      have zw3 := NB4.out.size
      have P4 := Lib.hid (P3.out.below NB4.out); have Q4 := Lib.hid (Q3.out.below NB4.out)
      have GC : Hid (∀ g, u8.ownBlock = some g → g < wr.heap.size) := fun g e => (NO.out.lt g e).2
      clear NO NB IT BX c0 c1
      obtain ⟨c, hcc⟩ : ∃ c, c = wr.heap.size := ⟨_, rfl⟩
      rw [← hcc] at SX GC ⊢
      clear hcc zbb
      generalize (wr.alloc (.cells #[.int .i64 (T (k - 1)), .int .i64 (T k)] 33)).drew = w4 at *
      go_wp2_with fail
      go_region_held3 (fun v => v.cell? ⟨c, 0, none⟩ = some (.int .i64 (T (k - 1))) ∧ v.cell? ⟨c, 1, none⟩ = some (.int .i64 (T k))) (first | exact SX.out | assumption)
        ((first
          | (go_at_call 52; refine (left_step NM.out Q5.out BO.out.1 B.out.1 (by omega) hk1 hkn (HB.out _)).mono ?_; rintro e w6 ⟨hb6, x6, rfl, hL6, hF6⟩; have NM6 := Lib.hid hL6; have P6 := Lib.hid (P5.out.below hb6); have Q6 := Lib.hid (Q5.out.below hb6); have F6 := Lib.hid hF6; have B6 := Lib.hid hb6; have hs6 : w6.cell? ⟨c, 0, none⟩ = some (.int .i64 (T (k - 1))) ∧ w6.cell? ⟨c, 1, none⟩ = some (.int .i64 (T k)) := SpanAt.below hs5 hb6 (SpanAt.lt hs5))
          | (go_at_call 52; refine (left_step NL.out (show PcsAt w4.drew p n F U V from P4.out) BO.out.1 A.out.1 (by omega) hk1 hkn (HA.out _)).mono ?_; rintro e w5 ⟨hb5, x5, rfl, hL5, hF5⟩; have F5 := Lib.hid hF5; have B5 := Lib.hid hb5; have P5 := Lib.hid (PcsAt.below (show PcsAt w4.drew p n F U V from P4.out) hb5); have Q5 := Lib.hid (PcsAt.below (show PcsAt w4.drew q m G H I from Q4.out) hb5); have hs5 : w5.cell? ⟨c, 0, none⟩ = some (.int .i64 (T (k - 1))) ∧ w5.cell? ⟨c, 1, none⟩ = some (.int .i64 (T k)) := SpanAt.below (show SpanAt w4.drew c (T (k - 1)) (T k) from SX.out) hb5 (SpanAt.lt SX.out))))
      have BB6 : Hid (Below w4.heap.size w4 w6) := (below_drewN (Below.refl _ w4) 1).trans (hb5.trans (hb6.mono hb5.size))
      have NO6 := Lib.hid (own_next NO4.out BB6.out)
      have NB6 := Lib.hid (NB4.out.trans (BB6.out.mono zw3))
      have S6 : Hid (SpanAt w6 c (T (k - 1)) (T k)) := hs6
      have zw6 := NB6.out.size
      have zc6 : c < w6.heap.size := S6.out.lt
      have NL5 := Lib.hid hL5
      clear hb5 hL5 hF5 hs5 hb6 hL6 hF6 hs6 B5 B6 SX NO4 NB4 BB6 P4 Q4 P5 Q5
      have hk9 : k - 1 ≤ 8000 := by omega
      have hkk : k - 1 + 1 = k := by omega
      go_wp2_with fail
      go_region_held3 (fun v => v.cell? ⟨c, 0, none⟩ = some (.int .i64 (T (k - 1))) ∧ v.cell? ⟨c, 1, none⟩ = some (.int .i64 (T k))) (first | exact S6.out | assumption | exact SpanAt.below (by assumption) ((Below.refl _ _).alloc (Nat.le_refl _) _) (SpanAt.lt (by assumption)))
        ((first
          | (go_at_call 53; refine (F6.out _ (PcsAt.below (show PcsAt w6.drew q m G H I from Q6.out) hb7)).mono ?_; rintro e w8 ⟨rfl, hb8⟩; have B8 : Hid (Below w6.heap.size w6 w8) := (below_drewN (Below.refl _ w6) 1).trans (hb7.trans (hb8.mono hb7.size)); have NO8 := Lib.hid (own_next NO6.out B8.out); have hz8 : w3.heap.size ≤ w8.heap.size := Nat.le_trans zw6 B8.out.size; have hc8 : c < w8.heap.size := Nat.lt_of_lt_of_le zc6 B8.out.size; have AP := Lib.hid (append_part (T (k - 1)) (T k) (va (T (k - 1))) (oa (T (k - 1))) (vb (T (k - 1))) (ob (T (k - 1))) NO8.out hz8 hk9 GC.out hc8 55); have hs8 : w8.cell? ⟨c, 0, none⟩ = some (.int .i64 (T (k - 1))) ∧ w8.cell? ⟨c, 1, none⟩ = some (.int .i64 (T k)) := SpanAt.below hs7 hb8 (SpanAt.lt hs7))
          | (go_at_call 53; refine (F5.out _ (show PcsAt w6.drew p n F U V from P6.out)).mono ?_; rintro e w7 ⟨rfl, hb7⟩; have hs7 : w7.cell? ⟨c, 0, none⟩ = some (.int .i64 (T (k - 1))) ∧ w7.cell? ⟨c, 1, none⟩ = some (.int .i64 (T k)) := SpanAt.below (show SpanAt w6.drew c (T (k - 1)) (T k) from S6.out) hb7 zc6)
          | (obtain ⟨v9, w9, hr9, ho9, hb9, hc9⟩ := AP.out; refine step_appends rfl (.tmp 49) (.tmp 60) 55 55 rfl _ _ rfl rfl hr9 ?_; have hs9 : w9.cell? ⟨c, 0, none⟩ = some (.int .i64 (T (k - 1))) ∧ w9.cell? ⟨c, 1, none⟩ = some (.int .i64 (T k)) := ⟨(hc9 0).trans hs8.1, (hc9 1).trans hs8.2⟩)))
      go_wp2_with fail
      go_roundw
      case rel =>
        refine ⟨k + 1, _, by omega, Or.inl (by omega), by go_num, NL5.out, NM6.out, by rw [Nat.add_sub_cancel]; rw [hkk] at ho9; exact ho9, ?_, NB6.out.trans ((B8.out.mono zw6).trans hb9)⟩
        rw [Nat.add_sub_cancel]
        have h := NX.out.snoc
        rw [hkk] at h
        exact h
      case measure => simp only [iv]; omega
    · have hkd : decide ((k : Int) < (L : Int)) = false := by simp; omega
      have hkL1 : k - 1 = L - 1 := by omega
      rw [hkL1] at NO NX
      go_wp2
      go_ret2
      exact ⟨_, L, T, xs, rfl, BO.out, own_base NO.out B3.out.size, NX.out, B3.out.trans (NB.out.mono B3.out.size)⟩

end Go.Proofs.Ytcgjhbjbfdbfaaa
