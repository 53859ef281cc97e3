/-
  What Changes answers. No statement of the seat is proved here.
-/
import Derived.Test.YtcgjhbjbfdbfaaaCp
namespace Go.Proofs.Ytcgjhbjbfdbfaaa
open Go.RowKit

theorem info33 : (Try.prog.info? 33).map (fun i => (i.zero, i.size, i.bytes)) = some (some (.agg #[.int .i64 0, .int .i64 0]), 2, 16) := by kernel_rfl
/-- Cells of spans. -/
def SpanCells (xs : List Value) (k : Nat) (F U : Nat → Int) : Prop := xs.length = k * 2 ∧ ∀ i, i < k → xs[i * 2]? = some (.int .i64 (F i)) ∧ xs[i * 2 + 1]? = some (.int .i64 (U i))
theorem SpanCells.snoc {xs : List Value} {k : Nat} {F U : Nat → Int} (h : SpanCells xs k F U) : SpanCells (xs ++ [.int .i64 (F k), .int .i64 (U k)]) (k + 1) F U := by
  refine ⟨by simp [h.1]; omega, fun i hi => ?_⟩
  rcases (show i < k ∨ i = k by omega) with c | c
  · rw [List.getElem?_append_left (by rw [h.1]; omega), List.getElem?_append_left (by rw [h.1]; omega)]
    exact h.2 i c
  · subst c
    rw [List.getElem?_append_right (by rw [h.1]; omega), List.getElem?_append_right (by rw [h.1]; omega), h.1, show i * 2 - i * 2 = 0 by omega, show i * 2 + 1 - i * 2 = 1 by omega]
    exact ⟨rfl, rfl⟩

/-- The values of two lists differ on a day. -/
abbrev Dif (va vb : Int → Int) (oa ob : Int → Bool) (d : Int) : Prop := ¬ (va d = vb d ∧ oa d = ob d)

set_option maxRecDepth 100000 in
set_option maxHeartbeats 8000000 in
theorem changes_loop (p : Option Addr) (n cap : Nat) (F U V : Nat → Int) (q : Option Addr) (m capq : Nat) (G H I : Nat → Int) (va : Int → Int) (oa : Int → Bool) (vb : Int → Int) (ob : Int → Bool) (w : World) (hP : PcsAt w p n F U V) (hQ : PcsAt w q m G H I) (hcp : n ≤ cap) (hcq : m ≤ capq) (hn : n + m ≤ 200)
    (hT : Tl n F U V) (hT2 : Tl m G H I) (ha : ∀ d, AtRes n F U V d (va d) (oa d)) (hb : ∀ d, AtRes m G H I d (vb d) (ob d)) :
    Calls Try.prog 25 #[.slice p n cap, .slice q m capq] w fun e w' => ∃ v L T n3 F3 U3 V3 xs, e = .returned (.tuple #[v, .int .i64 0]) ∧ BoundsOf n F U m G H L T ∧ w'.ownsRow w.heap.size 33 2 v n3 xs ∧ SpanCells xs n3 F3 U3 ∧ Tl n3 F3 U3 V3 ∧ n3 ≤ 1000 ∧
      (∀ d x, Has n3 F3 U3 V3 d x ↔ ∃ j, j < L - 1 ∧ Dif va vb oa ob (T j) ∧ (T j ≤ d ∧ d < T (j + 1)) ∧ 0 = x) ∧ Below w.heap.size w w' := by
  have D := Lib.hid (partsOf_loop p n cap F U V q m capq G H I va oa vb ob w hP hQ hcp hcq (by omega) (by omega) hT hT2 ha hb)
  have hU0 : ∀ i, i < n → spn (F i) (U i) := hT.1.1
  have hU1 : ∀ i, i < m → spn (G i) (H i) := hT2.1.1
  obtain ⟨i0, hi, hz0, hz1, hz2⟩ := info_parts info33
  have HU0 := Lib.hid hU0; have HU1 := Lib.hid hU1
  clear hP hQ hT hT2 ha hb hU0 hU1
  go_enter Try.func25, Try.ntmps25
  go_wp2_with fail
  refine D.out.mono ?_
  rintro e w1 ⟨v, L, T, xs, rfl, hBo, hown, hpx, hb⟩
  obtain ⟨pp, cp, rfl, hpa⟩ := parts_at hown hpx
  have PA := Lib.hid hpa; have BO := Lib.hid hBo; have B1 := Lib.hid hb
  have hL8 : L ≤ 400 := by have := hBo.2.2; omega
  have TR : Hid (∀ j, j < L → 0 ≤ T j ∧ T j ≤ 1048576) := fun j hj => by
    rcases (hBo.2.1 (T j)).1 ⟨j, hj, rfl⟩ with ⟨i, i1, h | h⟩ | ⟨i, i1, h | h⟩
    · have := HU0.out i i1; omega
    · have := HU0.out i i1; omega
    · have := HU1.out i i1; omega
    · have := HU1.out i i1; omega
  have hz1w := hb.size
  clear hBo hown hpx hb hpa D
  go_wp2_with fail
  go_loopw [8, 25] (fun v i wr => ∃ k : Nat, k ≤ L - 1 ∧ i = .int .i64 k ∧ (∃ p2 n2 cap2 F2 U2 V2, v = .slice p2 n2 cap2 ∧ LsAt w1.heap.size wr p2 n2 cap2 F2 U2 V2 ∧ Gath L k T (fun j => Dif va vb oa ob (T j)) (fun _ => 0) n2 F2 U2 V2) ∧ Below w1.heap.size w1 wr) (fun _ i _ => L - iv i)
  case atStart => exact ⟨0, Nat.zero_le _, rfl, ⟨none, 0, 0, F, U, V, rfl, Or.inl ⟨rfl, rfl, rfl⟩, Gath.nil⟩, Below.refl _ _⟩
  case round =>
    obtain ⟨k, hk, rfl, ⟨p2, n2, cap2, F2, U2, V2, rfl, hL, hG⟩, hb⟩ := hrel
    have NB := Lib.hid hb; have NL := Lib.hid hL; have NG := Lib.hid hG
    have hzr := hb.size
    have hn2 := hG.2.1
    clear hL hG
    by_cases hkn : k < L - 1
    · obtain ⟨g, rfl, hg⟩ := (PA.out.next hb).get hkn
      obtain ⟨⟨q0, q1⟩, ⟨q2, q3⟩, q4, q5⟩ := hg
      have zb := World.block_lt_of_cell? wr _ q0
      have hkd : decide ((k : Int) < ((L - 1 : Nat) : Int)) = true := by simp; omega
      have hkz : (k : Int) < ((L - 1 : Nat) : Int) := by omega
      clear hb
      obtain ⟨x1, hx1⟩ : ∃ x, x = va (T k) := ⟨_, rfl⟩
      obtain ⟨x2, hx2⟩ : ∃ x, x = vb (T k) := ⟨_, rfl⟩
      obtain ⟨ox, hox⟩ : ∃ x, x = oa (T k) := ⟨_, rfl⟩
      obtain ⟨oy, hoy⟩ : ∃ x, x = ob (T k) := ⟨_, rfl⟩
      rw [← hx1] at q2
      rw [← hox] at q3
      rw [← hx2] at q4
      rw [← hoy] at q5
      have HX : Hid (Dif va vb oa ob (T k) ↔ ¬ (x1 = x2 ∧ ox = oy)) := by
        show Dif va vb oa ob (T k) ↔ ¬ (x1 = x2 ∧ ox = oy)
        rw [hx1, hx2, hox, hoy]
      clear hx1 hx2 hox hoy
      by_cases he : x1 = x2
      · cases ox <;> cases oy
        · have HD : Hid (¬ Dif va vb oa ob (T k)) := fun h => HX.out.1 h ⟨he, rfl⟩
          subst he
          have BX : Hid (Below wr.heap.size wr (wr.alloc (.cells #[.int .i64 (T k), .int .i64 (T (k + 1)), .int .i64 x1, .bool false, .int .i64 x1, .bool false] 61))) := (Below.refl _ _).alloc (Nat.le_refl _) _
          go_wp2_with fail
          go_roundw
          case rel => exact ⟨k + 1, by omega, by go_num, ⟨p2, n2, cap2, _, _, _, rfl, NL.out.next BX.out, NG.out.skip HD.out⟩, NB.out.trans (BX.out.mono hzr)⟩
          case measure => simp only [iv]; omega
        · have HD : Hid (Dif va vb oa ob (T k)) := HX.out.2 (fun h => by cases h.2)
          subst he
          have BX : Hid (Below wr.heap.size wr ((wr.alloc (.cells #[.int .i64 (T k), .int .i64 (T (k + 1)), .int .i64 x1, .bool false, .int .i64 x1, .bool true] 61)).alloc (.cells #[.int .i64 (T k), .int .i64 (T (k + 1)), .int .i64 0] 47))) := ((Below.refl _ _).alloc (Nat.le_refl _) _).alloc (by simp) _
          have LX := Lib.hid (NL.out.next BX.out)
          have PX : Hid (Pc ((wr.alloc (.cells #[.int .i64 (T k), .int .i64 (T (k + 1)), .int .i64 x1, .bool false, .int .i64 x1, .bool true] 61)).alloc (.cells #[.int .i64 (T k), .int .i64 (T (k + 1)), .int .i64 0] 47)) (wr.heap.size + 1) 0 (T k) (T (k + 1)) 0) := by
            have h := Pc.new (wr.alloc (.cells #[.int .i64 (T k), .int .i64 (T (k + 1)), .int .i64 x1, .bool false, .int .i64 x1, .bool true] 61)) (T k) (T (k + 1)) 0 47
            rwa [show (wr.alloc (.cells #[.int .i64 (T k), .int .i64 (T (k + 1)), .int .i64 x1, .bool false, .int .i64 x1, .bool true] 61)).heap.size = wr.heap.size + 1 by simp] at h
          have ZX := Nat.le_trans hzr BX.out.size
          go_wp2_with (at_builtin; refine wpList_append_piece rfl (.tmp 34) (.tmp 38) rfl w1.heap.size n2 cap2 _ p2 F2 U2 V2 rfl LX.out (by omega) (wr.heap.size + 1) 1 (T k) (T (k + 1)) 0 rfl PX.out ZX ?_; intro p3 cap3 w3 hL3 hB3)
          go_roundw
          case rel => exact ⟨k + 1, by omega, by go_num, ⟨p3, n2 + 1, cap3, _, _, _, rfl, hL3, NG.out.take HD.out (by omega) BO.out.1 (TR.out k (by omega)).1 (TR.out (k + 1) (by omega)).2⟩, NB.out.trans ((BX.out.mono hzr).trans hB3)⟩
          case measure => simp only [iv]; omega
        · have HD : Hid (Dif va vb oa ob (T k)) := HX.out.2 (fun h => by cases h.2)
          subst he
          have BX : Hid (Below wr.heap.size wr ((wr.alloc (.cells #[.int .i64 (T k), .int .i64 (T (k + 1)), .int .i64 x1, .bool true, .int .i64 x1, .bool false] 61)).alloc (.cells #[.int .i64 (T k), .int .i64 (T (k + 1)), .int .i64 0] 47))) := ((Below.refl _ _).alloc (Nat.le_refl _) _).alloc (by simp) _
          have LX := Lib.hid (NL.out.next BX.out)
          have PX : Hid (Pc ((wr.alloc (.cells #[.int .i64 (T k), .int .i64 (T (k + 1)), .int .i64 x1, .bool true, .int .i64 x1, .bool false] 61)).alloc (.cells #[.int .i64 (T k), .int .i64 (T (k + 1)), .int .i64 0] 47)) (wr.heap.size + 1) 0 (T k) (T (k + 1)) 0) := by
            have h := Pc.new (wr.alloc (.cells #[.int .i64 (T k), .int .i64 (T (k + 1)), .int .i64 x1, .bool true, .int .i64 x1, .bool false] 61)) (T k) (T (k + 1)) 0 47
            rwa [show (wr.alloc (.cells #[.int .i64 (T k), .int .i64 (T (k + 1)), .int .i64 x1, .bool true, .int .i64 x1, .bool false] 61)).heap.size = wr.heap.size + 1 by simp] at h
          have ZX := Nat.le_trans hzr BX.out.size
          go_wp2_with (at_builtin; refine wpList_append_piece rfl (.tmp 34) (.tmp 38) rfl w1.heap.size n2 cap2 _ p2 F2 U2 V2 rfl LX.out (by omega) (wr.heap.size + 1) 1 (T k) (T (k + 1)) 0 rfl PX.out ZX ?_; intro p3 cap3 w3 hL3 hB3)
          go_roundw
          case rel => exact ⟨k + 1, by omega, by go_num, ⟨p3, n2 + 1, cap3, _, _, _, rfl, hL3, NG.out.take HD.out (by omega) BO.out.1 (TR.out k (by omega)).1 (TR.out (k + 1) (by omega)).2⟩, NB.out.trans ((BX.out.mono hzr).trans hB3)⟩
          case measure => simp only [iv]; omega
        · have HD : Hid (¬ Dif va vb oa ob (T k)) := fun h => HX.out.1 h ⟨he, rfl⟩
          subst he
          have BX : Hid (Below wr.heap.size wr (wr.alloc (.cells #[.int .i64 (T k), .int .i64 (T (k + 1)), .int .i64 x1, .bool true, .int .i64 x1, .bool true] 61))) := (Below.refl _ _).alloc (Nat.le_refl _) _
          go_wp2_with fail
          go_roundw
          case rel => exact ⟨k + 1, by omega, by go_num, ⟨p2, n2, cap2, _, _, _, rfl, NL.out.next BX.out, NG.out.skip HD.out⟩, NB.out.trans (BX.out.mono hzr)⟩
          case measure => simp only [iv]; omega
      · have HD : Hid (Dif va vb oa ob (T k)) := HX.out.2 (fun h => he h.1)
        have d1 : (x1 == x2) = false := bool_ne he
        clear he
        have BX : Hid (Below wr.heap.size wr ((wr.alloc (.cells #[.int .i64 (T k), .int .i64 (T (k + 1)), .int .i64 x1, .bool ox, .int .i64 x2, .bool oy] 61)).alloc (.cells #[.int .i64 (T k), .int .i64 (T (k + 1)), .int .i64 0] 47))) := ((Below.refl _ _).alloc (Nat.le_refl _) _).alloc (by simp) _
        have LX := Lib.hid (NL.out.next BX.out)
        have PX : Hid (Pc ((wr.alloc (.cells #[.int .i64 (T k), .int .i64 (T (k + 1)), .int .i64 x1, .bool ox, .int .i64 x2, .bool oy] 61)).alloc (.cells #[.int .i64 (T k), .int .i64 (T (k + 1)), .int .i64 0] 47)) (wr.heap.size + 1) 0 (T k) (T (k + 1)) 0) := by
          have h := Pc.new (wr.alloc (.cells #[.int .i64 (T k), .int .i64 (T (k + 1)), .int .i64 x1, .bool ox, .int .i64 x2, .bool oy] 61)) (T k) (T (k + 1)) 0 47
          rwa [show (wr.alloc (.cells #[.int .i64 (T k), .int .i64 (T (k + 1)), .int .i64 x1, .bool ox, .int .i64 x2, .bool oy] 61)).heap.size = wr.heap.size + 1 by simp] at h
        have ZX := Nat.le_trans hzr BX.out.size
        go_wp2_with (at_builtin; refine wpList_append_piece rfl (.tmp 34) (.tmp 38) rfl w1.heap.size n2 cap2 _ p2 F2 U2 V2 rfl LX.out (by omega) (wr.heap.size + 1) 1 (T k) (T (k + 1)) 0 rfl PX.out ZX ?_; intro p3 cap3 w3 hL3 hB3)
        go_roundw
        case rel => exact ⟨k + 1, by omega, by go_num, ⟨p3, n2 + 1, cap3, _, _, _, rfl, hL3, NG.out.take HD.out (by omega) BO.out.1 (TR.out k (by omega)).1 (TR.out (k + 1) (by omega)).2⟩, NB.out.trans ((BX.out.mono hzr).trans hB3)⟩
        case measure => simp only [iv]; omega
    · have hkd : decide ((k : Int) < ((L - 1 : Nat) : Int)) = false := by simp; omega
      obtain rfl : k = L - 1 := by omega
      clear hb
      go_wp2_with fail
      refine (join_loop p2 n2 cap2 F2 U2 V2 _ NL.out.pcs (by omega) NG.out.1).mono ?_
      rintro e w4 ⟨_, rfl, ⟨p3, n3, cap3, F3, U3, V3, rfl, hL3, hT3, hn3, hH3, _⟩, hB4⟩
      have L4 := Lib.hid hL3.pcs; have T4 := Lib.hid hT3; have H4 := Lib.hid hH3; have B4 := Lib.hid (NB.out.trans (hB4.mono hzr))
      have hz4 := B4.out.size
      clear hL3 hT3 hH3 hB4
      go_wp2_with fail
      go_loopw [11, 44] (fun v i wx => ∃ (l : Nat) (ys : List Value), l ≤ n3 ∧ i = .int .i64 l ∧ wx.ownsRow w4.heap.size 33 2 v l ys ∧ SpanCells ys l F3 U3 ∧ Below w4.heap.size w4 wx) (fun _ i _ => n3 - iv i)
      case atStart => exact ⟨0, [], Nat.zero_le _, rfl, World.ownsRow_nil _ _ _ _, ⟨rfl, fun i hi => absurd hi (by omega)⟩, Below.refl _ _⟩
      case round =>
        obtain ⟨l, ys, hl, rfl, hown, hsc, hbx⟩ := hrel
        have NO := Lib.hid hown; have NS := Lib.hid hsc; have NX := Lib.hid hbx
        have hzx := hbx.size
        by_cases hln : l < n3
        · obtain ⟨blk, off, rfl, hpc⟩ := L4.out.get hln
          have PW := Lib.hid (hpc.below hbx hpc.lt)
          have hkd : decide ((l : Int) < (n3 : Int)) = true := by simp; omega
          have q0 := PW.out.1; have q1 := PW.out.2.1; have q2 := PW.out.2.2
          have zb := PW.out.lt
          have BX : Hid (Below wr.heap.size wr ((wr.alloc (.cells #[.int .i64 (F3 l), .int .i64 (U3 l), .int .i64 (V3 l)] 47)).alloc (.cells #[.int .i64 (F3 l), .int .i64 (U3 l)] 33))) := ((Below.refl _ _).alloc (Nat.le_refl _) _).alloc (by simp) _
          have OX : Hid (((wr.alloc (.cells #[.int .i64 (F3 l), .int .i64 (U3 l), .int .i64 (V3 l)] 47)).alloc (.cells #[.int .i64 (F3 l), .int .i64 (U3 l)] 33)).ownsRow w4.heap.size 33 2 u11 l ys) := (NO.out.alloc _).alloc _
          have hzX : (wr.alloc (.cells #[.int .i64 (F3 l), .int .i64 (U3 l), .int .i64 (V3 l)] 47)).heap.size = wr.heap.size + 1 := by simp
          have NW : Hid (∀ j u, [Value.int .i64 (F3 l), .int .i64 (U3 l)][j]? = some u → ((wr.alloc (.cells #[.int .i64 (F3 l), .int .i64 (U3 l), .int .i64 (V3 l)] 47)).alloc (.cells #[.int .i64 (F3 l), .int .i64 (U3 l)] 33)).cell? ((⟨wr.heap.size + 1, 0, none⟩ : Addr).add j) = some u) := fun j u hu => by
            rw [Addr.add_lit, Nat.zero_add, ← hzX, World.cell?_alloc_new]
            simpa using hu
          clear hown hsc hbx hpc
          go_wp2_with (at_builtin; refine wpList_append_own _ rfl (.tmp 48) (.tmp 51) 39 rfl w4.heap.size 33 i0 _ 2 16 Try.underlying39 hi hz0 hz1 hz2 rfl (by decide) _ _ _ rfl OX.out ⟨wr.heap.size + 1, 0, none⟩ 1 1 [.int .i64 (F3 l), .int .i64 (U3 l)] rfl rfl NW.out (by intro u hu; simp at hu; rcases hu with h | h <;> subst h <;> rfl) (by unfold maxLen; omega) (by omega) (Nat.le_trans hzx BX.out.size) ?_; intro v' w5 hown' hgrow _)
          go_roundw
          case rel => exact ⟨l + 1, _, by omega, by go_num, hown', NS.out.snoc, NX.out.trans ((BX.out.mono hzx).grown hgrow (Nat.le_trans hzx BX.out.size) (fun g e => (OX.out.lt g e).1))⟩
          case measure => simp only [iv]; omega
        · have hkd : decide ((l : Int) < (n3 : Int)) = false := by simp; omega
          obtain rfl : l = n3 := by omega
          clear hown hsc hbx
          have hn9 : (l : Int) ≤ 1024 := by omega
          have hng : decide ((l : Int) > 1024) = false := by simp; omega
          rcases NO.out.2 with ⟨rfl, h0⟩ | ⟨g, c, cur, rfl, _⟩
          · subst h0
            go_wp2
            go_ret2
            exact ⟨_, L, T, 0, F3, U3, V3, ys, rfl, BO.out, own_base NO.out (Nat.le_trans hz1w hz4), NS.out, T4.out, by omega, fun d x => (H4.out d x).trans (NG.out.2.2.1 d x), B1.out.trans ((B4.out.mono hz1w).trans (NX.out.mono (Nat.le_trans hz1w hz4)))⟩
          · go_wp2
            go_ret2
            exact ⟨_, L, T, l, F3, U3, V3, ys, rfl, BO.out, own_base NO.out (Nat.le_trans hz1w hz4), NS.out, T4.out, by omega, fun d x => (H4.out d x).trans (NG.out.2.2.1 d x), B1.out.trans ((B4.out.mono hz1w).trans (NX.out.mono (Nat.le_trans hz1w hz4)))⟩

/-- What Changes answers: spans that do not touch, with just the days on which the values differ. -/
def Changes (va vb : Int → Int) (oa ob : Int → Bool) (n3 : Nat) (F3 U3 : Nat → Int) : Prop :=
  (∀ i, i < n3 → spn (F3 i) (U3 i)) ∧ (∀ i, i + 1 < n3 → U3 i < F3 (i + 1)) ∧ ∀ d, (∃ i, i < n3 ∧ F3 i ≤ d ∧ d < U3 i) ↔ Dif va vb oa ob d
theorem changes_ok (p : Option Addr) (n cap : Nat) (F U V : Nat → Int) (q : Option Addr) (m capq : Nat) (G H I : Nat → Int) (va : Int → Int) (oa : Int → Bool) (vb : Int → Int) (ob : Int → Bool) (w : World) (hP : PcsAt w p n F U V) (hQ : PcsAt w q m G H I) (hcp : n ≤ cap) (hcq : m ≤ capq) (hn : n + m ≤ 200)
    (hT : Tl n F U V) (hT2 : Tl m G H I) (ha : ∀ d, AtRes n F U V d (va d) (oa d)) (hb : ∀ d, AtRes m G H I d (vb d) (ob d)) :
    Calls Try.prog 25 #[.slice p n cap, .slice q m capq] w fun e w' => ∃ v n3 F3 U3 xs, e = .returned (.tuple #[v, .int .i64 0]) ∧ w'.ownsRow w.heap.size 33 2 v n3 xs ∧ SpanCells xs n3 F3 U3 ∧ Changes va vb oa ob n3 F3 U3 ∧ n3 ≤ 1000 ∧ Below w.heap.size w w' := by
  refine (changes_loop p n cap F U V q m capq G H I va oa vb ob w hP hQ hcp hcq hn hT hT2 ha hb).mono ?_
  rintro e w' ⟨v, L, T, n3, F3, U3, V3, xs, rfl, hBo, hown, hsc, hT3, h10, hH3, hB⟩
  have hV : ∀ i, i < n3 → V3 i = 0 := fun i hi => by
    have h := hT3.1.1 i hi
    obtain ⟨_, _, _, _, h0⟩ := (hH3 (F3 i) (V3 i)).1 ⟨i, hi, by omega, by omega, rfl⟩
    exact h0.symm
  have const : ∀ j d, j + 1 < L → T j ≤ d → d < T (j + 1) → (va d = va (T j) ∧ oa d = oa (T j)) ∧ vb d = vb (T j) ∧ ob d = ob (T j) := fun j d h1 h2 h3 =>
    ⟨AtRes.iff hT.1 (ha (T j)) (ha d) (fun x => part_const hBo h1 h2 h3 x), AtRes.iff hT2.1 (hb (T j)) (hb d) (fun x => part_const (bounds_swap hBo) h1 h2 h3 x)⟩
  refine ⟨v, n3, F3, U3, xs, rfl, hown, hsc, ⟨hT3.1.1, fun i hi => ?_, fun d => ⟨?_, fun hd => ?_⟩⟩, h10, hB⟩
  · have h1 := hT3.1.2 i hi
    rcases (show U3 i < F3 (i + 1) ∨ U3 i = F3 (i + 1) by omega) with h | h
    · exact h
    · exact (hT3.2 i hi h (by rw [hV i (by omega), hV (i + 1) hi])).elim
  · rintro ⟨i, h1, h2, h3⟩
    obtain ⟨j, j1, j2, j3, _⟩ := (hH3 d (V3 i)).1 ⟨i, h1, h2, h3, rfl⟩
    obtain ⟨⟨c1, c2⟩, c3, c4⟩ := const j d (by omega) j3.1 j3.2
    show ¬ (va d = vb d ∧ oa d = ob d)
    rw [c1, c2, c3, c4]
    exact j2
  · have hx : ∃ j, j + 1 < L ∧ T j ≤ d ∧ d < T (j + 1) := by
      rcases ha d with ⟨_, h⟩ | ⟨h1, h2, _⟩
      · exact part_of hBo h
      · rcases hb d with ⟨_, h⟩ | ⟨h3, h4, _⟩
        · exact part_of (bounds_swap hBo) h
        · exact (hd ⟨by rw [h2, h4], by rw [h1, h3]⟩).elim
    obtain ⟨j, j1, j2, j3⟩ := hx
    obtain ⟨⟨c1, c2⟩, c3, c4⟩ := const j d j1 j2 j3
    obtain ⟨i, i1, i2, i3, _⟩ := (hH3 d 0).2 ⟨j, by omega, fun h => hd (by rw [c1, c2, c3, c4]; exact h), ⟨j2, j3⟩, rfl⟩
    exact ⟨i, i1, i2, i3⟩

end Go.Proofs.Ytcgjhbjbfdbfaaa
