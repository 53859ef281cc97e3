/-
  Compare and Within for any strings. No statement of the seat is proved here.
-/
import Derived.Test.YtbjbioiggjhknaaDoorPt
namespace Go.Proofs.YtbjbioiggjhknaaDoor
open Go Go.RowKit Go.Shelf

theorem Is.len6 {l : List UInt8} {ns : List Int} (h : Is l ns) : ns.length ≤ 6 := h.1.2.1

set_option maxRecDepth 100000 in
set_option maxHeartbeats 2000000 in
theorem Compare_ok (a b : ByteArray) (xs ys : List Int) (w : World) (hE : Env w) (h1 : Is (bs a) xs) (h2 : Is (bs b) ys) :
    Calls Tryd.prog 51 #[.string a, .string b] w fun e w' => e = .returned (.tuple #[.int .i64 (cmpL xs ys), .int .i64 0]) ∧ Below w.heap.size w w' := by
  have P1 := Lib.hid (Parse_ok a xs w hE h1)
  have P2 := Lib.hid (fun w hE => Parse_ok b ys w hE h2)
  have E0 := Lib.hid hE
  have l1 := h1.len6
  obtain ⟨N1, hN1⟩ : ∃ N, N = xs.length := ⟨_, rfl⟩
  obtain ⟨N2, hN2⟩ : ∃ N, N = ys.length := ⟨_, rfl⟩
  rw [← hN1] at P1 l1
  rw [← hN2] at P2
  have H1 := Lib.hid hN1.symm; have H2 := Lib.hid hN2.symm
  clear h1 h2 hE hN1 hN2
  go_enter Tryd.func51, Tryd.ntmps51
  go_wp2_with fail
  refine P1.out.mono ?_
  rintro e w1 ⟨p1, c1, rfl, hr, hb⟩
  have B1 := Lib.hid hb
  have R1 := Lib.hid (intsAt_of_row (by rw [← H1.out] at hr; exact hr))
  clear hr hb
  go_wp2_with fail
  refine (P2.out _ (E0.out.below B1.out)).mono ?_
  rintro e w2 ⟨p2, c2, rfl, hr, hb⟩
  have B2 := Lib.hid (B1.out.trans (hb.mono B1.out.size))
  have R2 := Lib.hid (intsAt_of_row (by rw [← H2.out] at hr; exact hr))
  have R3 := Lib.hid (R1.out.below hb)
  clear hr hb
  go_wp2_with fail
  refine (cmp_loop p1 p2 N1 N2 c1 c2 xs ys _ R3.out R2.out H1.out H2.out (by omega)).mono ?_
  rintro e w3 ⟨rfl, rfl⟩
  go_wp2_with fail
  go_ret2
  exact ⟨rfl, B2.out⟩

set_option maxRecDepth 100000 in
set_option maxHeartbeats 2000000 in
theorem Compare_no (a b : ByteArray) (w : World) (hE : Env w) (ha : a.size ≤ 140737488355328) (hb : b.size ≤ 140737488355328) (h : (∀ xs, ¬ Is (bs a) xs) ∨ (∀ ys, ¬ Is (bs b) ys)) :
    Calls Tryd.prog 51 #[.string a, .string b] w fun e w' => e = .returned (.tuple #[.int .i64 0, .int .i64 3]) ∧ Below w.heap.size w w' := by
  by_cases h1 : ∀ xs, ¬ Is (bs a) xs
  · have P1 := Lib.hid (Parse_no a w hE ha h1)
    clear hE ha hb h h1
    go_enter Tryd.func51, Tryd.ntmps51
    go_wp2_with fail
    refine P1.out.mono ?_
    rintro e w1 ⟨rfl, hb⟩
    have B1 := Lib.hid hb
    clear hb
    go_wp2_with fail
    go_ret2
    exact ⟨rfl, B1.out⟩
  · obtain ⟨xs, hx⟩ : ∃ xs, Is (bs a) xs := Classical.not_forall_not.1 h1
    have P1 := Lib.hid (Parse_ok a xs w hE hx)
    have P2 := Lib.hid (fun w hE => Parse_no b w hE hb (h.resolve_left h1))
    have E0 := Lib.hid hE
    clear hE ha hb h h1 hx
    go_enter Tryd.func51, Tryd.ntmps51
    go_wp2_with fail
    refine P1.out.mono ?_
    rintro e w1 ⟨p1, c1, rfl, hr, hb⟩
    have B1 := Lib.hid hb
    clear hr hb
    go_wp2_with fail
    refine (P2.out _ (E0.out.below B1.out)).mono ?_
    rintro e w2 ⟨rfl, hb⟩
    have B2 := Lib.hid (B1.out.trans (hb.mono B1.out.size))
    clear hb
    go_wp2_with fail
    go_ret2
    exact ⟨rfl, B2.out⟩

theorem drewN_below (w : World) (q : Nat) : Below w.heap.size w (w.drewN q) := below_drewN (Below.refl _ _) q


end Go.Proofs.YtbjbioiggjhknaaDoor
