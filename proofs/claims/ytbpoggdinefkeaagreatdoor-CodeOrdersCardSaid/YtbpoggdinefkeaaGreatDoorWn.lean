/-
  Compare and Within for any strings. No statement of the seat is proved here.
-/
import Derived.Test.YtbpoggdinefkeaaGreatDoorPt
namespace Go.Proofs.YtbpoggdinefkeaaGreatDoor
open Go Go.RowKit Go.Shelf

theorem Is.len6 {l : List UInt8} {ns : List Int} (h : Is l ns) : ns.length ≤ 6 := h.1.2.1

set_option maxRecDepth 100000 in
set_option maxHeartbeats 2000000 in
theorem Compare_ok (a b : ByteArray) (xs ys : List Int) (w : World) (hE : Env w) (h1 : Is (bs a) xs) (h2 : Is (bs b) ys) :
    Calls Tryz.prog 8 #[.string a, .string b] w fun e w' => e = .returned (.tuple #[.int .i64 (cmpL xs ys), .int .i64 0]) ∧ Below w.heap.size w w' := by
  have P1 := Lib.hid (Parse_ok a xs w hE h1)
  have P2 := Lib.hid (fun w hE => Parse_ok b ys w hE h2)
  have E0 := Lib.hid hE
  have l1 := h1.len6
  obtain ⟨N1, hN1⟩ : ∃ N, N = xs.length := ⟨_, rfl⟩
  obtain ⟨N2, hN2⟩ : ∃ N, N = ys.length := ⟨_, rfl⟩
  rw [← hN1] at P1 l1
  rw [← hN2] at P2
  have H1 := Lib.hid hN1.symm; have H2 := Lib.hid hN2.symm
  clear h1 h2 hE hN1 hN2
  go_enter Tryz.func8, Tryz.ntmps8
  go_wp2_with fail
  refine P1.out.mono ?_
  rintro e w1 ⟨p1, c1, rfl, hr, hb⟩
  have B1 := Lib.hid hb
  have R1 := Lib.hid (intsAt_of_row (by rw [← H1.out] at hr; exact hr))
  clear hr hb
  go_wp2_with fail
  refine (P2.out _ (E0.out.below B1.out)).mono ?_
  rintro e w2 ⟨p2, c2, rfl, hr, hb⟩
  have B2 := Lib.hid (B1.out.trans (hb.mono B1.out.size))
  have R2 := Lib.hid (intsAt_of_row (by rw [← H2.out] at hr; exact hr))
  have R3 := Lib.hid (R1.out.below hb)
  clear hr hb
  go_wp2_with fail
  refine (cmp_loop p1 p2 N1 N2 c1 c2 xs ys _ R3.out R2.out H1.out H2.out (by omega)).mono ?_
  rintro e w3 ⟨rfl, rfl⟩
  go_wp2_with fail
  go_ret2
  exact ⟨rfl, B2.out⟩

set_option maxRecDepth 100000 in
set_option maxHeartbeats 2000000 in
theorem Compare_no (a b : ByteArray) (w : World) (hE : Env w) (ha : a.size ≤ 1000000000000) (hb : b.size ≤ 1000000000000) (h : (∀ xs, ¬ Is (bs a) xs) ∨ (∀ ys, ¬ Is (bs b) ys)) :
    Calls Tryz.prog 8 #[.string a, .string b] w fun e w' => e = .returned (.tuple #[.int .i64 0, .int .i64 3]) ∧ Below w.heap.size w w' := by
  by_cases h1 : ∀ xs, ¬ Is (bs a) xs
  · have P1 := Lib.hid (Parse_no a w hE ha h1)
    clear hE ha hb h h1
    go_enter Tryz.func8, Tryz.ntmps8
    go_wp2_with fail
    refine P1.out.mono ?_
    rintro e w1 ⟨rfl, hb⟩
    have B1 := Lib.hid hb
    clear hb
    go_wp2_with fail
    go_ret2
    exact ⟨rfl, B1.out⟩
  · obtain ⟨xs, hx⟩ : ∃ xs, Is (bs a) xs := Classical.not_forall_not.1 h1
    have P1 := Lib.hid (Parse_ok a xs w hE hx)
    have P2 := Lib.hid (fun w hE => Parse_no b w hE hb (h.resolve_left h1))
    have E0 := Lib.hid hE
    clear hE ha hb h h1 hx
    go_enter Tryz.func8, Tryz.ntmps8
    go_wp2_with fail
    refine P1.out.mono ?_
    rintro e w1 ⟨p1, c1, rfl, hr, hb⟩
    have B1 := Lib.hid hb
    clear hr hb
    go_wp2_with fail
    refine (P2.out _ (E0.out.below B1.out)).mono ?_
    rintro e w2 ⟨rfl, hb⟩
    have B2 := Lib.hid (B1.out.trans (hb.mono B1.out.size))
    clear hb
    go_wp2_with fail
    go_ret2
    exact ⟨rfl, B2.out⟩

theorem drewN_below (w : World) (q : Nat) : Below w.heap.size w (w.drewN q) := below_drewN (Below.refl _ _) q

set_option maxRecDepth 100000 in
set_option maxHeartbeats 2000000 in
theorem Within_ok (a b : ByteArray) (xs ys : List Int) (w : World) (hE : Env w) (h1 : Is (bs a) xs) (h2 : Is (bs b) ys) :
    Calls Tryz.prog 12 #[.string a, .string b] w fun e w' => e = .returned (.bool (ys.isPrefixOf xs)) ∧ Below w.heap.size w w' := by
  have P1 := Lib.hid (Parse_ok a xs w hE h1)
  have P2 := Lib.hid (fun w hE => Parse_ok b ys w hE h2)
  have E0 := Lib.hid hE
  have l1 := h1.len6
  have l2 := h2.len6
  have l3 := h2.1.1
  obtain ⟨N1, hN1⟩ : ∃ N, N = xs.length := ⟨_, rfl⟩
  obtain ⟨N2, hN2⟩ : ∃ N, N = ys.length := ⟨_, rfl⟩
  rw [← hN1] at P1 l1
  rw [← hN2] at P2 l2 l3
  have H1 := Lib.hid hN1.symm; have H2 := Lib.hid hN2.symm
  clear h1 h2 hE hN1 hN2
  have d1 : decide (0 < (N2 : Int)) = true := by rw [decide_eq_true_iff]; omega
  have d1' : decide (0 < N2) = true := by rw [decide_eq_true_iff]; omega
  by_cases hle : N2 ≤ N1
  · have d2 : decide ((N2 : Int) ≤ (N1 : Int)) = true := by rw [decide_eq_true_iff]; omega
    have d2' : decide (N2 ≤ N1) = true := by rw [decide_eq_true_iff]; omega
    have RR := Lib.hid (show (xs.take N2 == ys.take N2) = ys.isPrefixOf xs by
      rw [Bool.eq_iff_iff, beq_iff_eq, List.isPrefixOf_iff_prefix, List.prefix_iff_eq_take, H2.out]
      rw [List.take_of_length_le (l := ys) (by rw [H2.out]; exact Nat.le_refl _)]
      exact eq_comm)
    go_enter Tryz.func12, Tryz.ntmps12
    go_wp2_with fail
    refine P1.out.mono ?_
    rintro e w1 ⟨p1, c1, rfl, hr, hb⟩
    have B1 := Lib.hid hb
    have R1 := Lib.hid (intsAt_of_row (by rw [← H1.out] at hr; exact hr))
    have hc1 : N1 ≤ c1 := by
      rcases hr.2 with ⟨_, h0⟩ | ⟨g, cap, cur, e, _, _, k, _⟩
      · omega
      · obtain ⟨_, rfl⟩ : p1 = some ⟨g, 0, none⟩ ∧ c1 = cap := by simpa using e
        exact k
    clear hr hb
    go_wp2_with fail
    refine (P2.out _ (E0.out.below B1.out)).mono ?_
    rintro e w2 ⟨p2, c2, rfl, hr, hb⟩
    have B2 := Lib.hid (B1.out.trans (hb.mono B1.out.size))
    have R2 := Lib.hid (intsAt_of_row (by rw [← H2.out] at hr; exact hr))
    have R3 := Lib.hid (R1.out.below hb)
    clear hr hb
    obtain ⟨b1, o1, rfl, _⟩ := R3.out.cell (k := 0) (by rw [H1.out]; omega)
    obtain ⟨b2, o2, rfl, _⟩ := R2.out.cell (k := 0) (by rw [H2.out]; omega)
    have C1 : Hid (∀ j, j < xs.length → w2.cell? ⟨b1, o1 + j, none⟩ = some (.int .i64 (xs.getD j 0))) := by
      rcases R3.out with rfl | ⟨b, o, e, h⟩
      · have := H1.out; simp at this; omega
      · cases e; exact h
    have C2 : Hid (∀ j, j < ys.length → w2.cell? ⟨b2, o2 + j, none⟩ = some (.int .i64 (ys.getD j 0))) := by
      rcases R2.out with rfl | ⟨b, o, e, h⟩
      · have := H2.out; simp at this; omega
      · cases e; exact h
    have EQ := Lib.hid (Tryz.slices_Equal_int b1 o1 N2 c1 b2 o2 N2 c2 xs ys w2 (by rw [H1.out]; exact hle) (by rw [H2.out]; exact Nat.le_refl _) (by omega) (by omega) C1.out C2.out)
    rw [RR.out] at EQ
    go_wp2_with fail
    refine EQ.out.mono ?_
    rintro e w3 ⟨rfl, q, rfl⟩
    have B3 := Lib.hid (below_drewN B2.out q)
    go_wp2_with fail
    go_ret
    exact ⟨rfl, B3.out⟩
  · have d2 : decide ((N2 : Int) ≤ (N1 : Int)) = false := by rw [decide_eq_false_iff_not]; omega
    have d2' : decide (N2 ≤ N1) = false := by rw [decide_eq_false_iff_not]; omega
    have RR := Lib.hid (show ys.isPrefixOf xs = false by
      rw [Bool.eq_false_iff]
      intro h
      have := (List.isPrefixOf_iff_prefix.1 h).length_le
      rw [H1.out, H2.out] at this; omega)
    go_enter Tryz.func12, Tryz.ntmps12
    go_wp2_with fail
    refine P1.out.mono ?_
    rintro e w1 ⟨p1, c1, rfl, hr, hb⟩
    have B1 := Lib.hid hb
    clear hr hb
    go_wp2_with fail
    refine (P2.out _ (E0.out.below B1.out)).mono ?_
    rintro e w2 ⟨p2, c2, rfl, hr, hb⟩
    have B2 := Lib.hid (B1.out.trans (hb.mono B1.out.size))
    clear hr hb
    go_wp2_with fail
    go_ret
    rw [RR.out]
    exact ⟨rfl, B2.out⟩

set_option maxRecDepth 100000 in
set_option maxHeartbeats 2000000 in
theorem Within_no (a b : ByteArray) (w : World) (hE : Env w) (ha : a.size ≤ 1000000000000) (hb : b.size ≤ 1000000000000) (h : (∀ xs, ¬ Is (bs a) xs) ∨ (∀ ys, ¬ Is (bs b) ys)) :
    Calls Tryz.prog 12 #[.string a, .string b] w fun e w' => e = .returned (.bool false) ∧ Below w.heap.size w w' := by
  by_cases h2 : ∀ ys, ¬ Is (bs b) ys
  · have P1 : Hid (Calls Tryz.prog 23 #[.string a] w fun e w' => ∃ p c k E, e = .returned (.tuple #[.slice p k c, .int .i64 E]) ∧ Below w.heap.size w w') := by
      refine (Parse_any a w hE ha).mono ?_
      rintro e w' ⟨hb, (⟨ns, v, h1, h2, h3⟩ | ⟨_, h2⟩)⟩
      · obtain ⟨p, c, rfl⟩ := row_slice h3
        exact ⟨p, c, _, 0, h2, hb⟩
      · exact ⟨none, 0, 0, 3, h2, hb⟩
    have P2 := Lib.hid (fun w hE => Parse_no b w hE hb h2)
    have E0 := Lib.hid hE
    clear hE ha hb h h2
    go_enter Tryz.func12, Tryz.ntmps12
    go_wp2_with fail
    refine P1.out.mono ?_
    rintro e w1 ⟨p, c, k, E, rfl, hb⟩
    have B1 := Lib.hid hb
    clear hb
    go_wp2_with fail
    refine (P2.out _ (E0.out.below B1.out)).mono ?_
    rintro e w2 ⟨rfl, hb⟩
    have B2 := Lib.hid (B1.out.trans (hb.mono B1.out.size))
    clear hb
    go_wp2_with fail
    go_ret
    exact ⟨rfl, B2.out⟩
  · obtain ⟨ys, hy⟩ : ∃ xs, Is (bs b) xs := Classical.not_forall_not.1 h2
    have P1 := Lib.hid (Parse_no a w hE ha (h.resolve_right h2))
    have P2 := Lib.hid (fun w hE => Parse_ok b ys w hE hy)
    have E0 := Lib.hid hE
    have l3 := hy.1.1
    obtain ⟨N2, hN2⟩ : ∃ N, N = ys.length := ⟨_, rfl⟩
    rw [← hN2] at P2 l3
    clear hE ha hb h h2 hy hN2
    have d1 : decide (0 < (N2 : Int)) = true := by rw [decide_eq_true_iff]; omega
    have d1' : decide (0 < N2) = true := by rw [decide_eq_true_iff]; omega
    have d2 : decide ((N2 : Int) ≤ 0) = false := by rw [decide_eq_false_iff_not]; omega
    go_enter Tryz.func12, Tryz.ntmps12
    go_wp2_with fail
    refine P1.out.mono ?_
    rintro e w1 ⟨rfl, hb⟩
    have B1 := Lib.hid hb
    clear hb
    go_wp2_with fail
    refine (P2.out _ (E0.out.below B1.out)).mono ?_
    rintro e w2 ⟨p, c, rfl, hr, hb⟩
    have B2 := Lib.hid (B1.out.trans (hb.mono B1.out.size))
    clear hr hb
    go_wp2_with fail
    go_ret
    exact ⟨rfl, B2.out⟩

end Go.Proofs.YtbpoggdinefkeaaGreatDoor
