/-
  Equality of two rows of numbers; the example checked first. No statement of the seat is proved here.
-/
import Derived.Test.YtchaihdbljkphaaEx
namespace Go.Proofs.Ytchaihdbljkphaa
open Go Go.RowKit Go.Maps Go.Joins

theorem eq_ints (p q : Option Addr) (xs ys : List Int) (c d : Nat) (w : World) (hx : IntsAt w p xs) (hy : IntsAt w q ys) (h1 : xs.length ≤ 100000000000000000) (h2 : ys.length ≤ 100000000000000000) :
    Calls Try.prog 27 #[.slice p xs.length c, .slice q ys.length d] w fun e w' => e = .returned (.bool (decide (xs = ys))) ∧ Below w.heap.size w w' := by
  rcases hx with rfl | ⟨b1, o1, rfl, hx⟩
  · refine (Try.slices_Equal_int_empty p q c ys.length d w (by omega)).mono ?_
    rintro e w' ⟨rfl, rfl⟩
    refine ⟨ret_bool ?_, Below.refl _ _⟩
    rw [decide_eq_decide, List.length_eq_zero_iff]
    exact eq_comm
  rcases hy with rfl | ⟨b2, o2, rfl, hy⟩
  · by_cases h0 : xs = []
    · subst h0
      refine (Try.slices_Equal_int_empty _ q c 0 d w (by omega)).mono ?_
      rintro e w' ⟨rfl, rfl⟩
      exact ⟨rfl, Below.refl _ _⟩
    · refine (Try.slices_Equal_int_lens _ q xs.length c 0 d w (by intro e; exact h0 (List.length_eq_zero_iff.1 e))).mono ?_
      rintro e w' ⟨rfl, rfl⟩
      exact ⟨by rw [decide_eq_false h0], Below.refl _ _⟩
  · have g : ∀ (zs : List Int) b o, (∀ i x, zs[i]? = some x → w.cell? ⟨b, o + i, none⟩ = some (.int .i64 x)) → ∀ j, j < zs.length → w.cell? ⟨b, o + j, none⟩ = some (.int .i64 (zs.getD j 0)) := fun zs b o h j hj => by
      rw [h j zs[j] (List.getElem?_eq_getElem hj)]
      simp [hj]
    refine (Try.slices_Equal_int b1 o1 xs.length c b2 o2 ys.length d xs ys w (Nat.le_refl _) (Nat.le_refl _) (by omega) (by omega) (g xs b1 o1 hx) (g ys b2 o2 hy)).mono ?_
    rintro e w' ⟨rfl, n, rfl⟩
    refine ⟨ret_bool ?_, below_drewN (Below.refl _ _) _⟩
    rw [List.take_length, List.take_length]
    rw [Bool.eq_iff_iff, beq_iff_eq, decide_eq_true_iff]
theorem ints_new (w : World) (l : List Int) : IntsAt (w.alloc (.cells (iw l).toArray 3)) (some ⟨w.heap.size, 0, none⟩) l := by
  refine .inr ⟨_, _, rfl, fun i x hi => ?_⟩
  rw [Nat.zero_add, World.cell?_alloc_new]
  unfold iw
  simp [hi]
theorem eq_new (p : Option Addr) (c : Nat) (l : List Int) (w : World) (h : IntsAt w p l) (hl : l.length ≤ 100000) :
    Calls Try.prog 27 #[.slice p l.length c, .slice (some ⟨w.heap.size, 0, none⟩) l.length l.length] (w.alloc (.cells (iw l).toArray 3)) fun e w' => e = .returned (.bool true) ∧ Below w.heap.size w w' := by
  have hb : Below w.heap.size w (w.alloc (.cells (iw l).toArray 3)) := (Below.refl _ _).alloc (Nat.le_refl _) _
  refine (eq_ints p _ l l c l.length _ (h.next hb) (ints_new w l) (by omega) (by omega)).mono ?_
  rintro e w' ⟨rfl, h2⟩
  exact ⟨by rw [decide_eq_true rfl], hb.trans (h2.mono hb.size)⟩
theorem IRow.open' {w : World} {B : Nat} {r : Value} {l : List Int} (h : IRow w B r l) : ∃ p cap, r = .slice p l.length cap ∧ IntsAt w p l := by
  by_cases h0 : l = []
  · subst h0
    obtain ⟨p, c, hr⟩ := h.nil
    exact ⟨p, c, hr, .inl rfl⟩
  · obtain ⟨g, cap, hr, _, hc⟩ := h.get h0
    exact ⟨_, cap, hr, .inr ⟨g, 0, rfl, fun i x hi => by rw [Nat.zero_add]; exact hc i x hi⟩⟩

set_option maxRecDepth 100000 in
set_option maxHeartbeats 8000000 in
theorem awake_true (w : World) (hE : Env w) : Calls Try.prog 9 #[] w fun e w' => e = .returned (.bool true) ∧ Below w.heap.size w w' := by
  have EV := Lib.hid (fun (v : World) (h : Below w.heap.size w v) => hE.below h)
  clear hE
  go_enter Try.func9, Try.ntmps9
  go_wp2_with fail
  refine (example_any w).mono ?_
  rintro e w1 ⟨rfl, hL, hb⟩
  obtain ⟨L, hLL⟩ : ∃ L, L = exO w.heap.size (w.heap.size + 1) := ⟨_, rfl⟩
  have F1 := Lib.hid (exO_fit w.heap.size (w.heap.size + 1))
  have F2 := Lib.hid (exO_chk w.heap.size (w.heap.size + 1))
  have F3 := Lib.hid (exO_chain w.heap.size (w.heap.size + 1))
  have F4 := Lib.hid (exO_1 w.heap.size (w.heap.size + 1))
  have F5 := Lib.hid (exO_reach w.heap.size (w.heap.size + 1))
  have F6 := Lib.hid (exO_dut w.heap.size (w.heap.size + 1))
  have F7 := Lib.hid (gl_of (exO_good w.heap.size (w.heap.size + 1)))
  have F8 : Hid (L.length = 4) := by show _ = _; rw [hLL]; rfl
  rw [← hLL] at hL F1 F2 F3 F4 F5 F6 F7
  clear hLL
  obtain ⟨bk, hbk⟩ : ∃ bk, bk = w.heap.size + 1 + 1 := ⟨_, rfl⟩
  rw [← hbk] at hL ⊢
  clear hbk
  have N1 := Lib.hid hb
  have LV := Lib.hid (fun (v : World) (h : Below w1.heap.size w1 v) => hL.next h)
  clear hL hb
  have i1 : I64 1 := ⟨by decide, by decide⟩
  go_wp2_with fail
  refine (Check_any _ 4 4 L w1 (EV.out _ N1.out) (LV.out _ (Below.refl _ _)) F8.out F1.out (-1) 0 F2.out).mono ?_
  rintro e w2 ⟨rfl, hb⟩
  have M2 := Lib.hid hb
  have N2 := Lib.hid (N1.out.trans (hb.mono N1.out.size))
  clear hb
  have HH := Lib.hid (Heir_any _ 4 4 L 1 250 w2 (EV.out _ N2.out) (LV.out _ M2.out) F8.out F1.out i1)
  rw [F7.out, F4.out] at HH
  have H2 : Hid (Calls Try.prog 11 #[.slice (some ⟨bk, 0, none⟩) 4 4, .int .i64 1, .int .i64 250] w2 fun e w' => e = .returned (.tuple #[.int .i64 4, .bool true]) ∧ Below w2.heap.size w2 w') := HH.out
  clear HH
  go_wp2_with fail
  refine H2.out.mono ?_
  rintro e w3 ⟨rfl, hb⟩
  have M3 := Lib.hid (M2.out.trans (hb.mono M2.out.size))
  have N3 := Lib.hid (N2.out.trans (hb.mono N2.out.size))
  clear hb H2
  go_wp2_with fail
  refine (Chain_any _ 4 4 L 1 150 w3 (EV.out _ N3.out) (LV.out _ M3.out) F8.out F1.out i1 [1, 2] (by rw [F7.out]; exact F3.out) (by decide)).mono ?_
  rintro e w4 ⟨r, rfl, hr, hb⟩
  obtain ⟨p4, c4, rfl, hI⟩ := hr.open'
  have M4 := Lib.hid (M3.out.trans (hb.mono M3.out.size))
  have N4 := Lib.hid (N3.out.trans (hb.mono N3.out.size))
  have I4 := Lib.hid hI
  clear hb hr hI
  go_wp2_with fail
  refine (eq_new p4 c4 [1, 2] w4 I4.out (by decide)).mono ?_
  rintro e w5 ⟨rfl, hb⟩
  have M5 := Lib.hid (M4.out.trans (hb.mono M4.out.size))
  have N5 := Lib.hid (N4.out.trans (hb.mono N4.out.size))
  clear hb M4 N4 I4 M3 N3 M2 N2
  have RR := Lib.hid (Reach_any _ 4 4 L 1 w5 (EV.out _ N5.out) (LV.out _ M5.out) F8.out F1.out i1)
  rw [F7.out, F5.out] at RR
  go_wp2_with fail
  refine RR.out.mono ?_
  rintro e w6 ⟨r, rfl, hr, hb⟩
  obtain ⟨p6, c6, rfl, hI⟩ := hr.open'
  have M6 := Lib.hid (M5.out.trans (hb.mono M5.out.size))
  have N6 := Lib.hid (N5.out.trans (hb.mono N5.out.size))
  have I6 := Lib.hid hI
  clear hb hr hI RR
  go_wp2_with fail
  refine (eq_new p6 c6 [1, 2, 3, 4] w6 I6.out (by decide)).mono ?_
  rintro e w7 ⟨rfl, hb⟩
  have M7 := Lib.hid (M6.out.trans (hb.mono M6.out.size))
  have N7 := Lib.hid (N6.out.trans (hb.mono N6.out.size))
  clear hb M6 N6 I6 M5 N5
  have DD := Lib.hid (Duties_any _ 4 4 L 4 250 w7 (EV.out _ N7.out) (LV.out _ M7.out) F8.out F1.out)
  rw [F7.out, F6.out] at DD
  go_wp2_with fail
  refine DD.out.mono ?_
  rintro e w8 ⟨r, rfl, hr, hb⟩
  obtain ⟨p8, c8, rfl, hI⟩ := hr.open'
  have N8 := Lib.hid (N7.out.trans (hb.mono N7.out.size))
  have I8 := Lib.hid hI
  clear hb hr hI DD
  go_wp2_with fail
  refine (eq_new p8 c8 [1, 2, 4] w8 I8.out (by decide)).mono ?_
  rintro e w9 ⟨rfl, hb⟩
  have N9 := Lib.hid (N8.out.trans (hb.mono N8.out.size))
  clear hb
  go_wp2_with fail
  go_ret
  exact ⟨rfl, N9.out⟩

end Go.Proofs.Ytchaihdbljkphaa
