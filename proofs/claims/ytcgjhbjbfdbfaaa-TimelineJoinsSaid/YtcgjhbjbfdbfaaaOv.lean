/-
  What Over answers. No statement of the seat is proved here.
-/
import Derived.Test.YtcgjhbjbfdbfaaaCp
namespace Go.Proofs.Ytcgjhbjbfdbfaaa
open Go.RowKit

set_option maxRecDepth 100000 in
set_option maxHeartbeats 8000000 in
theorem over_loop (p : Option Addr) (n cap : Nat) (F U V : Nat → Int) (q : Option Addr) (m capq : Nat) (G H I : Nat → Int) (va : Int → Int) (oa : Int → Bool) (vb : Int → Int) (ob : Int → Bool) (w : World) (hP : PcsAt w p n F U V) (hQ : PcsAt w q m G H I) (hcp : n ≤ cap) (hcq : m ≤ capq) (hn : n + m ≤ 200)
    (hT : Tl n F U V) (hT2 : Tl m G H I) (ha : ∀ d, AtRes n F U V d (va d) (oa d)) (hb : ∀ d, AtRes m G H I d (vb d) (ob d)) :
    Calls Try.prog 27 #[.slice p n cap, .slice q m capq] w fun e w' => ∃ L T p3 n3 cap3 F3 U3 V3, e = .returned (.tuple #[.slice p3 n3 cap3, .int .i64 0]) ∧ BoundsOf n F U m G H L T ∧ LsAt w.heap.size w' p3 n3 cap3 F3 U3 V3 ∧ Tl n3 F3 U3 V3 ∧ n3 ≤ L - 1 ∧ L ≤ (n + n) + (m + m) ∧
      (∀ d x, Has n3 F3 U3 V3 d x ↔ ∃ j, j < L - 1 ∧ (ob (T j) = true ∨ oa (T j) = true) ∧ (T j ≤ d ∧ d < T (j + 1)) ∧ (if ob (T j) = true then vb (T j) else va (T j)) = x) ∧ Below w.heap.size w w' := by
  have D := Lib.hid (partsOf_loop p n cap F U V q m capq G H I va oa vb ob w hP hQ hcp hcq (by omega) (by omega) hT hT2 ha hb)
  have hU0 : ∀ i, i < n → spn (F i) (U i) := hT.1.1
  have hU1 : ∀ i, i < m → spn (G i) (H i) := hT2.1.1
  have HU0 := Lib.hid hU0; have HU1 := Lib.hid hU1
  clear hP hQ hT hT2 ha hb hU0 hU1
  go_enter Try.func27, Try.ntmps27
  go_wp2_with fail
  refine D.out.mono ?_
  rintro e w1 ⟨v, L, T, xs, rfl, hBo, hown, hpx, hb⟩
  obtain ⟨pp, cp, rfl, hpa⟩ := parts_at hown hpx
  have PA := Lib.hid hpa; have BO := Lib.hid hBo; have B1 := Lib.hid hb
  have hL7 : L ≤ (n + n) + (m + m) := by have := hBo.2.2; omega
  have hL8 : L ≤ 400 := by omega
  have TR : Hid (∀ j, j < L → 0 ≤ T j ∧ T j ≤ 1048576) := fun j hj => by
    rcases (hBo.2.1 (T j)).1 ⟨j, hj, rfl⟩ with ⟨i, i1, h | h⟩ | ⟨i, i1, h | h⟩
    · have := HU0.out i i1; omega
    · have := HU0.out i i1; omega
    · have := HU1.out i i1; omega
    · have := HU1.out i i1; omega
  have hz1w := hb.size
  clear hBo hown hpx hb hpa D
  go_wp2_with fail
  go_loopw [8, 23] (fun v i wr => ∃ k : Nat, k ≤ L - 1 ∧ i = .int .i64 k ∧ (∃ p2 n2 cap2 F2 U2 V2, v = .slice p2 n2 cap2 ∧ LsAt w1.heap.size wr p2 n2 cap2 F2 U2 V2 ∧ Gath L k T (fun j => ob (T j) = true ∨ oa (T j) = true) (fun j => if ob (T j) = true then vb (T j) else va (T j)) n2 F2 U2 V2) ∧ Below w1.heap.size w1 wr) (fun _ i _ => L - iv i)
  case atStart => exact ⟨0, Nat.zero_le _, rfl, ⟨none, 0, 0, F, U, V, rfl, Or.inl ⟨rfl, rfl, rfl⟩, Gath.nil⟩, Below.refl _ _⟩
  case round =>
    obtain ⟨k, hk, rfl, ⟨p2, n2, cap2, F2, U2, V2, rfl, hL, hG⟩, hb⟩ := hrel
    have NB := Lib.hid hb; have NL := Lib.hid hL; have NG := Lib.hid hG
    have hzr := hb.size
    have hn2 := hG.2.1
    clear hL hG
    by_cases hkn : k < L - 1
    · obtain ⟨g, rfl, hg⟩ := (PA.out.next hb).get hkn
      obtain ⟨⟨q0, q1⟩, ⟨q2, q3⟩, q4, q5⟩ := hg
      have zb := World.block_lt_of_cell? wr _ q0
      have hkd : decide ((k : Int) < ((L - 1 : Nat) : Int)) = true := by simp; omega
      have hkz : (k : Int) < ((L - 1 : Nat) : Int) := by omega
      clear hb
      have HO : Hid (((ob (T k) = true ∨ oa (T k) = true) ↔ (ob (T k) = true ∨ oa (T k) = true)) ∧ (if ob (T k) = true then vb (T k) else va (T k)) = (if ob (T k) = true then vb (T k) else va (T k))) := ⟨Iff.rfl, rfl⟩
      obtain ⟨x1, hx1⟩ : ∃ x, x = va (T k) := ⟨_, rfl⟩
      obtain ⟨x2, hx2⟩ : ∃ x, x = vb (T k) := ⟨_, rfl⟩
      obtain ⟨ox, hox⟩ : ∃ x, x = oa (T k) := ⟨_, rfl⟩
      obtain ⟨oy, hoy⟩ : ∃ x, x = ob (T k) := ⟨_, rfl⟩
      rw [← hx1] at q2
      rw [← hox] at q3
      rw [← hx2] at q4
      rw [← hoy] at q5
      have HE : Hid (((ob (T k) = true ∨ oa (T k) = true) ↔ (oy = true ∨ ox = true)) ∧ (if ob (T k) = true then vb (T k) else va (T k)) = (if oy = true then x2 else x1)) := by
        rw [hx1, hx2, hox, hoy]; exact ⟨Iff.rfl, rfl⟩
      clear hx1 hx2 hox hoy HO
      cases oy
      · cases ox
        · have HD : Hid (¬ (ob (T k) = true ∨ oa (T k) = true)) := fun h => by
            rcases HE.out.1.1 h with h | h <;> cases h
          have BX : Hid (Below wr.heap.size wr ((wr.alloc (.cells #[.int .i64 (T k), .int .i64 (T (k + 1)), .int .i64 x1, .bool false, .int .i64 x2, .bool false] 61)).alloc (.cells #[.int .i64 x1, .bool false] 59))) := ((Below.refl _ _).alloc (Nat.le_refl _) _).alloc (by simp) _
          go_wp2_with fail
          go_roundw
          case rel => exact ⟨k + 1, by omega, by go_num, ⟨p2, n2, cap2, _, _, _, rfl, NL.out.next BX.out, NG.out.skip HD.out⟩, NB.out.trans (BX.out.mono hzr)⟩
          case measure => simp only [iv]; omega
        · have HD : Hid (ob (T k) = true ∨ oa (T k) = true) := HE.out.1.2 (Or.inr rfl)
          have HX : Hid ((if ob (T k) = true then vb (T k) else va (T k)) = x1) := HE.out.2
          have BX : Hid (Below wr.heap.size wr (((wr.alloc (.cells #[.int .i64 (T k), .int .i64 (T (k + 1)), .int .i64 x1, .bool true, .int .i64 x2, .bool false] 61)).alloc (.cells #[.int .i64 x1, .bool true] 59)).alloc (.cells #[.int .i64 (T k), .int .i64 (T (k + 1)), .int .i64 x1] 47))) := (((Below.refl _ _).alloc (Nat.le_refl _) _).alloc (by simp) _).alloc (by simp; omega) _
          have LX := Lib.hid (NL.out.next BX.out)
          have PX : Hid (Pc (((wr.alloc (.cells #[.int .i64 (T k), .int .i64 (T (k + 1)), .int .i64 x1, .bool true, .int .i64 x2, .bool false] 61)).alloc (.cells #[.int .i64 x1, .bool true] 59)).alloc (.cells #[.int .i64 (T k), .int .i64 (T (k + 1)), .int .i64 x1] 47)) (wr.heap.size + 2) 0 (T k) (T (k + 1)) x1) := by
            have h := Pc.new ((wr.alloc (.cells #[.int .i64 (T k), .int .i64 (T (k + 1)), .int .i64 x1, .bool true, .int .i64 x2, .bool false] 61)).alloc (.cells #[.int .i64 x1, .bool true] 59)) (T k) (T (k + 1)) x1 47
            rwa [show ((wr.alloc (.cells #[.int .i64 (T k), .int .i64 (T (k + 1)), .int .i64 x1, .bool true, .int .i64 x2, .bool false] 61)).alloc (.cells #[.int .i64 x1, .bool true] 59)).heap.size = wr.heap.size + 2 by simp] at h
          have ZX := Nat.le_trans hzr BX.out.size
          have GX := Lib.hid (NG.out.take HD.out (by omega) BO.out.1 (TR.out k (by omega)).1 (TR.out (k + 1) (by omega)).2)
          have GY : Hid (Gath L (k + 1) T (fun j => ob (T j) = true ∨ oa (T j) = true) (fun j => if ob (T j) = true then vb (T j) else va (T j)) (n2 + 1) (upd F2 n2 (T k)) (upd U2 n2 (T (k + 1))) (upd V2 n2 x1)) := by
            have h := GX.out
            simp only [HX.out] at h
            exact h
          clear GX
          go_wp2_with (at_builtin; refine wpList_append_piece rfl (.tmp 36) (.tmp 42) rfl w1.heap.size n2 cap2 _ p2 F2 U2 V2 rfl LX.out (by omega) (wr.heap.size + 2) 1 (T k) (T (k + 1)) x1 rfl PX.out ZX ?_; intro p3 cap3 w3 hL3 hB3)
          go_roundw
          case rel => exact ⟨k + 1, by omega, by go_num, ⟨p3, n2 + 1, cap3, _, _, _, rfl, hL3, GY.out⟩, NB.out.trans ((BX.out.mono hzr).trans hB3)⟩
          case measure => simp only [iv]; omega
      · have HD : Hid (ob (T k) = true ∨ oa (T k) = true) := HE.out.1.2 (Or.inl rfl)
        have HX : Hid ((if ob (T k) = true then vb (T k) else va (T k)) = x2) := HE.out.2
        have BX : Hid (Below wr.heap.size wr (((wr.alloc (.cells #[.int .i64 (T k), .int .i64 (T (k + 1)), .int .i64 x1, .bool ox, .int .i64 x2, .bool true] 61)).alloc (.cells #[.int .i64 x2, .bool true] 59)).alloc (.cells #[.int .i64 (T k), .int .i64 (T (k + 1)), .int .i64 x2] 47))) := (((Below.refl _ _).alloc (Nat.le_refl _) _).alloc (by simp) _).alloc (by simp; omega) _
        have LX := Lib.hid (NL.out.next BX.out)
        have PX : Hid (Pc (((wr.alloc (.cells #[.int .i64 (T k), .int .i64 (T (k + 1)), .int .i64 x1, .bool ox, .int .i64 x2, .bool true] 61)).alloc (.cells #[.int .i64 x2, .bool true] 59)).alloc (.cells #[.int .i64 (T k), .int .i64 (T (k + 1)), .int .i64 x2] 47)) (wr.heap.size + 2) 0 (T k) (T (k + 1)) x2) := by
          have h := Pc.new ((wr.alloc (.cells #[.int .i64 (T k), .int .i64 (T (k + 1)), .int .i64 x1, .bool ox, .int .i64 x2, .bool true] 61)).alloc (.cells #[.int .i64 x2, .bool true] 59)) (T k) (T (k + 1)) x2 47
          rwa [show ((wr.alloc (.cells #[.int .i64 (T k), .int .i64 (T (k + 1)), .int .i64 x1, .bool ox, .int .i64 x2, .bool true] 61)).alloc (.cells #[.int .i64 x2, .bool true] 59)).heap.size = wr.heap.size + 2 by simp] at h
        have ZX := Nat.le_trans hzr BX.out.size
        have GX := Lib.hid (NG.out.take HD.out (by omega) BO.out.1 (TR.out k (by omega)).1 (TR.out (k + 1) (by omega)).2)
        have GY : Hid (Gath L (k + 1) T (fun j => ob (T j) = true ∨ oa (T j) = true) (fun j => if ob (T j) = true then vb (T j) else va (T j)) (n2 + 1) (upd F2 n2 (T k)) (upd U2 n2 (T (k + 1))) (upd V2 n2 x2)) := by
          have h := GX.out
          simp only [HX.out] at h
          exact h
        clear GX
        go_wp2_with (at_builtin; refine wpList_append_piece rfl (.tmp 36) (.tmp 42) rfl w1.heap.size n2 cap2 _ p2 F2 U2 V2 rfl LX.out (by omega) (wr.heap.size + 2) 1 (T k) (T (k + 1)) x2 rfl PX.out ZX ?_; intro p3 cap3 w3 hL3 hB3)
        go_roundw
        case rel => exact ⟨k + 1, by omega, by go_num, ⟨p3, n2 + 1, cap3, _, _, _, rfl, hL3, GY.out⟩, NB.out.trans ((BX.out.mono hzr).trans hB3)⟩
        case measure => simp only [iv]; omega
    · have hkd : decide ((k : Int) < ((L - 1 : Nat) : Int)) = false := by simp; omega
      obtain rfl : k = L - 1 := by omega
      clear hb
      go_wp2_with fail
      refine (join_loop p2 n2 cap2 F2 U2 V2 _ NL.out.pcs (by omega) NG.out.1).mono ?_
      rintro e w4 ⟨_, rfl, ⟨p3, n3, cap3, F3, U3, V3, rfl, hL3, hT3, hn3, hH3, _⟩, hB4⟩
      have L4 := Lib.hid hL3; have T4 := Lib.hid hT3; have H4 := Lib.hid hH3; have B4 := Lib.hid (NB.out.trans (hB4.mono hzr))
      have hz4 := B4.out.size
      clear hL3 hT3 hH3 hB4
      go_wp2_with fail
      refine (limited_any p3 n3 cap3 _).mono ?_
      rintro e w7 ⟨he, _, hb7⟩
      obtain rfl := he (by omega)
      clear he
      go_wp2_with fail
      go_ret2
      exact ⟨L, T, p3, n3, cap3, F3, U3, V3, rfl, BO.out, (L4.out.next hb7).mono (Nat.le_trans hz1w hzr), T4.out, by omega, hL7, fun d x => (H4.out d x).trans (NG.out.2.2.1 d x), B1.out.trans ((B4.out.trans (hb7.mono hz4)).mono hz1w)⟩

/-- What Over answers: on every day the upper list's value, or else the lower one's. -/
theorem over_ok (p : Option Addr) (n cap : Nat) (F U V : Nat → Int) (q : Option Addr) (m capq : Nat) (G H I : Nat → Int) (va : Int → Int) (oa : Int → Bool) (vb : Int → Int) (ob : Int → Bool) (w : World) (hP : PcsAt w p n F U V) (hQ : PcsAt w q m G H I) (hcp : n ≤ cap) (hcq : m ≤ capq) (hn : n + m ≤ 200)
    (hT : Tl n F U V) (hT2 : Tl m G H I) (ha : ∀ d, AtRes n F U V d (va d) (oa d)) (hb : ∀ d, AtRes m G H I d (vb d) (ob d)) :
    Calls Try.prog 27 #[.slice p n cap, .slice q m capq] w fun e w' => ∃ p3 n3 cap3 F3 U3 V3, e = .returned (.tuple #[.slice p3 n3 cap3, .int .i64 0]) ∧ LsAt w.heap.size w' p3 n3 cap3 F3 U3 V3 ∧ Tl n3 F3 U3 V3 ∧ n3 ≤ (n + n) + (m + m) ∧
      (∀ d x, Has n3 F3 U3 V3 d x ↔ (ob d = true ∧ vb d = x) ∨ (ob d = false ∧ oa d = true ∧ va d = x)) ∧ Below w.heap.size w w' := by
  refine (over_loop p n cap F U V q m capq G H I va oa vb ob w hP hQ hcp hcq hn hT hT2 ha hb).mono ?_
  rintro e w' ⟨L, T, p3, n3, cap3, F3, U3, V3, rfl, hBo, hL3, hT3, h3, h4, hH3, hB⟩
  have const : ∀ j d, j + 1 < L → T j ≤ d → d < T (j + 1) → (va d = va (T j) ∧ oa d = oa (T j)) ∧ vb d = vb (T j) ∧ ob d = ob (T j) := fun j d h1 h2 h3 =>
    ⟨AtRes.iff hT.1 (ha (T j)) (ha d) (fun x => part_const hBo h1 h2 h3 x), AtRes.iff hT2.1 (hb (T j)) (hb d) (fun x => part_const (bounds_swap hBo) h1 h2 h3 x)⟩
  refine ⟨p3, n3, cap3, F3, U3, V3, rfl, hL3, hT3, by omega, fun d x => ?_, hB⟩
  rw [hH3]
  constructor
  · rintro ⟨j, j1, j2, j3, j4⟩
    obtain ⟨⟨c1, c2⟩, c3, c4⟩ := const j d (by omega) j3.1 j3.2
    rw [c1, c2, c3, c4]
    by_cases h : ob (T j) = true
    · rw [if_pos h] at j4
      exact Or.inl ⟨h, j4⟩
    · rw [if_neg h] at j4
      exact Or.inr ⟨by simpa using h, j2.resolve_left h, j4⟩
  · intro h
    have hx : ∃ j, j + 1 < L ∧ T j ≤ d ∧ d < T (j + 1) := by
      rcases h with ⟨h, _⟩ | ⟨_, h, _⟩
      · rcases hb d with ⟨_, g⟩ | ⟨g, _, _⟩
        · exact part_of (bounds_swap hBo) g
        · rw [g] at h; cases h
      · rcases ha d with ⟨_, g⟩ | ⟨g, _, _⟩
        · exact part_of hBo g
        · rw [g] at h; cases h
    obtain ⟨j, j1, j2, j3⟩ := hx
    obtain ⟨⟨c1, c2⟩, c3, c4⟩ := const j d j1 j2 j3
    rw [c1, c2, c3, c4] at h
    rcases h with ⟨h1, h2⟩ | ⟨h1, h2, h5⟩
    · exact ⟨j, by omega, Or.inl h1, ⟨j2, j3⟩, by rw [if_pos h1]; exact h2⟩
    · exact ⟨j, by omega, Or.inr h2, ⟨j2, j3⟩, by rw [if_neg (by rw [h1]; decide)]; exact h5⟩

end Go.Proofs.Ytcgjhbjbfdbfaaa
