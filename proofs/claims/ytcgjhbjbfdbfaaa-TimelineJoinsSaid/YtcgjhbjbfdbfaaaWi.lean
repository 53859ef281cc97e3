/-
  What without answers where the timeline and the span are valid. No statement of the seat is proved here.
-/
import Derived.Test.YtcgjhbjbfdbfaaaIn
import Derived.Test.YtcgjhbjbfdbfaaaBad
import Derived.Deep.RegionHeld3
namespace Go.Proofs.Ytcgjhbjbfdbfaaa
open Go.RowKit

theorem HoldsN.ofBlock {w : World} {b : Nat} {cur : Array Value} {t : TypeId} (h : w.heap[b]? = some (.cells cur t (0, 0))) : HoldsN cur.size w b (fun i => (cur[i]?).getD undef) := by
  refine ⟨(Array.getElem?_eq_some_iff.1 h).1, fun i hi => ⟨?_, ?_⟩⟩
  · simp [World.cell?, h, hi]
  · simp [World.frozen?, h]
/-- A made list with the cells of another one. -/
theorem made_facts {w2 w3 : World} {base n cap : Nat} {p : Option Addr} {F U V : Nat → Int} {xs : List Value} (hP : PcsAt w2 p n F U V) (hown : w3.ownsRow base 47 3 (.slice (some ⟨w2.heap.size, 0, none⟩) n n) n xs) (hgrow : w2.grownBy w3 none) :
    ∃ w4, (∀ ty, (Builtin.copy_ #[22, 22] ty #[.slice (some ⟨w2.heap.size, 0, none⟩) n n, .slice p n cap]).run Try.prog w3 = .ok (goInt n) w4) ∧ Row w2.heap.size w4 w2.heap.size n n F U V ∧ Below w2.heap.size w2 w4 := by
  obtain ⟨_, ⟨h, _⟩ | ⟨g, c, cur, h, _, hg, hc1, _, hc2, _⟩⟩ := hown
  · simp at h
  · obtain ⟨rfl, rfl⟩ : g = w2.heap.size ∧ c = n := by
      simp at h
      omega
    have hb : Below w2.heap.size w2 w3 := (Below.refl _ _).grown hgrow (Nat.le_refl _) (fun k e => by cases e)
    have hH := HoldsN.ofBlock hg
    refine ⟨w3.setCells w2.heap.size 0 (cellsOf (pcsV F U V) 0 (c * 3)), fun ty => run_copy3 w3 22 22 47 Try.underlying22 size47 w2.heap.size _ _ hH 0 0 c c c cap c p (pcsV F U V) (by simp) (fun h0 => (hP.below hb).cells h0) (fun j _ => pcsV_one _ _ _ _) (by omega) ty, ⟨_, _, hH.laid _ _ _ _ (by omega), Nat.le_refl _, by omega, ?_, Nat.le_refl _⟩, setCells_below (Nat.le_refl _) _ _ _ hb⟩
    refine (pcsV_lies F U V c).congr (fun q hq => ?_)
    rw [laid, if_pos (by omega), show 0 + (q - 0) = q by omega]

theorem Cn.mono {n : Nat} {F U V : Nat → Int} {S S' : Int → Prop} (h : Cn n F U V S) (hs : ∀ x, S x → S' x) : Cn n F U V S' := fun i hi h1 h2 => hs _ (h i hi h1 h2)
theorem shut_lies {n i0 i1 : Nat} {F U V : Nat → Int} {vs vz : Nat → Value} (h : lies vs n F U V) (h01 : i0 ≤ i1) (h1 : i1 ≤ n) (hz : ∀ q, q < (i0 + (n - i1)) * 3 → vz q = shut vs i0 (i0 + (n - i1)) (i1 - i0) q) :
    lies vz (i0 + (n - i1)) (shut1 F i0 (i1 - i0)) (shut1 U i0 (i1 - i0)) (shut1 V i0 (i1 - i0)) := by
  intro i hi
  rw [hz _ (by omega), hz _ (by omega), hz _ (by omega), shut, shut, shut]
  rcases (show i < i0 ∨ i0 ≤ i by omega) with k | k
  · rw [if_neg (by omega), if_neg (by omega), if_neg (by omega), shut1_lt k, shut1_lt k, shut1_lt k]
    exact h i (by omega)
  · rw [if_pos (by omega), if_pos (by omega), if_pos (by omega), shut1_ge k, shut1_ge k, shut1_ge k]
    have g := h (i + (i1 - i0)) (by omega)
    rw [show i * 3 + (i1 - i0) * 3 = (i + (i1 - i0)) * 3 by omega, show i * 3 + 1 + (i1 - i0) * 3 = (i + (i1 - i0)) * 3 + 1 by omega, show i * 3 + 2 + (i1 - i0) * 3 = (i + (i1 - i0)) * 3 + 2 by omega]
    exact g

/-- A list out of which a span is taken: it has a gap for the span at i0. -/
def Gap (n : Nat) (F U V : Nat → Int) (a b : Int) (n2 : Nat) (F2 U2 V2 : Nat → Int) (i0 : Nat) : Prop :=
  Tl n2 F2 U2 V2 ∧ (∀ d x, Has n2 F2 U2 V2 d x ↔ ¬ (a ≤ d ∧ d < b) ∧ Has n F U V d x) ∧ i0 ≤ n2 ∧ (∀ i, i < i0 → F2 i < a ∧ U2 i ≤ a) ∧ ∀ i, i0 ≤ i → i < n2 → b ≤ F2 i
theorem DeleteFunc_any (B b n cap c : Nat) (F U V : Nat → Int) (x y : Int) (w : World) (hR : Row B w b n cap F U V) (hS : SpanAt w c x y) (hcB : c < B) (hn : (n : Int) ≤ 2000) (hW : Wk n F U) (hC : Cn n F U V (fun z => z = x ∨ z = y)) (hxy : x < y)
    (ma : ∀ i, i < n → ¬ midP F U x i) (mb : ∀ i, i < n → ¬ midP F U y i) :
    Calls Try.prog 45 #[.slice (some ⟨b, 0, none⟩) n cap, .func (.func 46) #[] #[.pointer (some ⟨c, 0, none⟩)]] w fun e w' =>
      ∃ n2 F2 U2 V2 i0, e = .returned (.slice (some ⟨b, 0, none⟩) n2 cap) ∧ Row B w' b n2 cap F2 U2 V2 ∧ Below B w w' ∧ n2 ≤ n ∧ Gap n F U V x y n2 F2 U2 V2 i0 := by
  have hb := hR.lt
  obtain ⟨i0, i1, h01, h1, hA, hB, hin⟩ := beg_range hW hxy
  have c := shut_all (a := x) (b := y) hW hC hxy h01 h1 hA hB hin ma mb
  rcases (show i0 = i1 ∨ i0 < i1 by omega) with k | k
  · subst k
    have hF : ∀ f : Nat → Int, shut1 f i0 (i0 - i0) = f := fun f => by
      funext i
      unfold shut1
      split
      · rfl
      · rw [Nat.sub_self, Nat.add_zero]
    rw [hF, hF, hF, show i0 + (n - i0) = n by omega] at c
    refine (DeleteFunc_none _ n cap _ F U V x y w hR.pcs (by omega) hS (fun i hi g => by have := (hin i hi).1 g; omega)).mono ?_
    rintro e w' ⟨rfl, h⟩
    exact ⟨n, F, U, V, i0, rfl, hR.next h, h.mono (by omega), Nat.le_refl _, c.1, c.2.1, by omega, c.2.2.1, c.2.2.2⟩
  · obtain ⟨N, vs, q1, q2, q3, q4, q5⟩ := hR
    refine (DeleteFunc_cut b N n cap i0 i1 _ F U V x y vs w q1 (by omega) q4 (by omega) hS (by omega) k h1 q2 hin).mono ?_
    rintro e w' ⟨rfl, ⟨vz, hz, hz2⟩, h⟩
    exact ⟨_, _, _, _, i0, rfl, ⟨N, vz, hz, by omega, q3, shut_lies q4 h01 h1 hz2, q5⟩, h.mono q5, by omega, c.1, c.2.1, by omega, c.2.2.1, c.2.2.2⟩

theorem spanAt_drew {w : World} {c : Nat} {a b : Int} (h : SpanAt w c a b) : SpanAt w.drew c a b := h
theorem Row.drew {B : Nat} {w : World} {b n cap : Nat} {F U V : Nat → Int} (h : Row B w b n cap F U V) : Row B w.drew b n cap F U V := h

theorem Row.mono {B B' : Nat} {w : World} {b n cap : Nat} {F U V : Nat → Int} (h : Row B w b n cap F U V) (hB : B' ≤ B) : Row B' w b n cap F U V := by
  obtain ⟨N, vs, h1, h2, h3, h4, h5⟩ := h
  exact ⟨N, vs, h1, h2, h3, h4, by omega⟩
/-- What without answers. -/
def Withouted (n : Nat) (F U V : Nat → Int) (a b : Int) (w : World) (e : Ending) (w' : World) : Prop :=
  ∃ b2 n2 cap2 F2 U2 V2 i0, e = .returned (.tuple #[.slice (some ⟨b2, 0, none⟩) n2 cap2, .int .i64 0]) ∧ Row w.heap.size w' b2 n2 cap2 F2 U2 V2 ∧ Below w.heap.size w w' ∧ n2 ≤ n + 2 ∧ Gap n F U V a b n2 F2 U2 V2 i0

set_option maxRecDepth 100000 in
set_option maxHeartbeats 4000000 in
theorem without_ok (p : Option Addr) (n cap : Nat) (F U V : Nat → Int) (a b : Int) (w : World) (hP : PcsAt w p n F U V) (hn : (n : Int) ≤ 1000) (hT : Tl n F U V) (hs : spn a b) (C : ChecksTo 16 p n cap F U V 0) :
    Calls Try.prog 35 #[.slice p n cap, .agg #[.int .i64 a, .int .i64 b]] w (Withouted n F U V a b w) := by
  have HP := Lib.hid (hP.below ((Below.refl _ _).alloc (Nat.le_refl _) (.cells #[.int .i64 a, .int .i64 b] 33))); have D := Lib.hid C; have HT := Lib.hid hT; have HS := Lib.hid hs
  have es : decide (spn a b) = true := decide_eq_true hs
  obtain ⟨i0, hi, hz0, hz1, hz2⟩ := info_parts info47
  clear hP C hT hs
  go_enter Try.func35, Try.ntmps35
  go_wp2_with fail
  refine (D.out _ HP.out).mono ?_
  rintro e w1 ⟨rfl, hb1⟩
  have HP1 := Lib.hid (HP.out.below hb1)
  have S1 : Hid (SpanAt w1 w.heap.size a b) := ⟨(hb1.cell (p := ⟨w.heap.size, 0, none⟩) (by simp)).trans (World.cell?_alloc_new w _ 33 0), (hb1.cell (p := ⟨w.heap.size, 1, none⟩) (by simp)).trans (World.cell?_alloc_new w _ 33 1)⟩
  have B1 := Lib.hid (((Below.refl w.heap.size w).alloc (Nat.le_refl _) (.cells #[.int .i64 a, .int .i64 b] 33)).trans (hb1.mono (by simp)))
  have c0 := S1.out.1; have c1 := S1.out.2
  clear hb1
  go_wp2_with fail
  refine (isSpan_any a b _).mono ?_
  rintro e w2 ⟨rfl, hb2⟩
  have B2 := Lib.hid (B1.out.trans (hb2.mono B1.out.size))
  have HP2 := Lib.hid (HP1.out.below hb2)
  have S2 := Lib.hid (S1.out.below hb2 S1.out.lt)
  clear hb2 c0 c1
  rw [es]
  go_wp2_with (at_make; refine wpList_make_full _ rfl (.tmp 17) (.tmp 17) 22 rfl 0 47 i0 _ 3 Try.underlying22 hi hz0 hz1 .i64 .i64 _ _ n rfl rfl rfl rfl (by rw [hz2]; omega) (by unfold maxLen; omega) (Nat.zero_le _) ?_; intro w3 hown hgrow; obtain ⟨w4, hcp, hR, hB4⟩ := made_facts (cap := cap) HP2.out hown hgrow; clear hown hgrow)
  have zs : w.heap.size < w2.heap.size := S2.out.lt
  have hs4 : w4.cell? ⟨w.heap.size, 0, none⟩ = some (.int .i64 a) ∧ w4.cell? ⟨w.heap.size, 1, none⟩ = some (.int .i64 b) := S2.out.below hB4 S2.out.lt
  have hn1 : (n : Int) ≤ 2000 := by omega
  have hcn : Cn n F U V (fun _ => False) := HT.out.2
  have hwk : Wk n F U := HT.out.1
  clear hcp
  go_region_held3 (fun v => v.cell? ⟨w.heap.size, 0, none⟩ = some (.int .i64 a) ∧ v.cell? ⟨w.heap.size, 1, none⟩ = some (.int .i64 b)) (first | exact hs4 | assumption) ((go_at_call 44; first | (refine (divide_any w2.heap.size b5 n5 cap5 F5 U5 V5 (fun x => False ∨ x = a) b _ hR5 (by omega) hW5 hC5).mono ?_; rintro e w6 ⟨b6, n6, cap6, F6, U6, V6, rfl, hR6, hB6, hn6, hW6, hC6, hH6, hm6, hk6⟩; have hs6 : w6.cell? ⟨w.heap.size, 0, none⟩ = some (.int .i64 a) ∧ w6.cell? ⟨w.heap.size, 1, none⟩ = some (.int .i64 b) := SpanAt.below hs5 hB6 zs) | (refine (divide_any w2.heap.size w2.heap.size n n F U V (fun _ => False) a _ hR.drew hn1 hwk hcn).mono ?_; rintro e w5 ⟨b5, n5, cap5, F5, U5, V5, rfl, hR5, hB5, hn5, hW5, hC5, hH5, hm5, hk5⟩; have hs5 : w5.cell? ⟨w.heap.size, 0, none⟩ = some (.int .i64 a) ∧ w5.cell? ⟨w.heap.size, 1, none⟩ = some (.int .i64 b) := SpanAt.below (spanAt_drew hs4) hB5 zs)))
  go_wp2_with fail
  have hab : a < b := HS.out.2.1
  refine (DeleteFunc_any w2.heap.size b6 n6 cap6 w.heap.size F6 U6 V6 a b _ hR6 hs6 zs (by omega) hW6 (hC6.mono (fun x h => by
    rcases h with (h | h) | h
    · exact h.elim
    · exact Or.inl h
    · exact Or.inr h)) hab (hk6 a hm5) hm6).mono ?_
  rintro e w7 ⟨n7, F7, U7, V7, i7, rfl, hR7, hB7, hn7, hG7⟩
  have B7 : Hid (Below w.heap.size w w7) := B2.out.trans ((hB4.trans ((below_drewN (Below.refl _ w4) 1).trans (hB5.trans (hB6.trans hB7)))).mono (by omega))
  have R7 : Hid (Row w.heap.size w7 b6 n7 cap6 F7 U7 V7) := hR7.mono (by omega)
  have G7 : Hid (Gap n F U V a b n7 F7 U7 V7 i7) := ⟨hG7.1, fun d x => by rw [hG7.2.1, hH6, hH5], hG7.2.2⟩
  clear hR5 hB5 hW5 hC5 hH5 hm5 hk5 hs5 hR6 hB6 hW6 hC6 hH6 hm6 hk6 hs6 hR7 hB7 hG7 hs4 hR hB4
  go_wp2_with fail
  go_ret2
  exact ⟨b6, n7, cap6, F7, U7, V7, i7, rfl, R7.out, B7.out, by omega, G7.out⟩

end Go.Proofs.Ytcgjhbjbfdbfaaa
