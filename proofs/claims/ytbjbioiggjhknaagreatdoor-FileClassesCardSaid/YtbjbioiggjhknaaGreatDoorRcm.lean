/-
  The reference's Compare; what its Parent and Good answer. No statement of the seat is proved here.
-/
import Derived.Test.YtbjbioiggjhknaaGreatDoorRr
import Derived.Test.YtbjbioiggjhknaaGreatDoorCl
namespace Go.Proofs.YtbjbioiggjhknaaGreatDoor
open Go Go.RowKit Go.Shelf

set_option maxRecDepth 100000 in
theorem refCompare_ok (a b : ByteArray) (xs ys : List Int) (w : World) (hE : Env w) (n m : Nat) (hn : xs.length = n) (hm : ys.length = m) (n6 : n ≤ 6) (m6 : m ≤ 6) (h1 : PAns 93 a xs n 0) (h2 : PAns 93 b ys m 0) :
    Calls Tryz.prog 79 #[.string a, .string b] w fun e w' => e = .returned (.tuple #[.int .i64 (cmpL xs ys), .int .i64 0]) ∧ Below w.heap.size w w' := by
  have P1 := Lib.hid h1; have P2 := Lib.hid h2; have E0 := Lib.hid hE; have HN := Lib.hid hn; have HM := Lib.hid hm
  obtain ⟨R, hR⟩ : ∃ R, R = cmpL xs ys := ⟨_, rfl⟩
  rw [← hR]
  have HR := Lib.hid hR
  clear h1 h2 hE hn hm hR
  go_enter Tryz.func79, Tryz.ntmps79
  go_wp2_with fail
  refine (P1.out _ E0.out).mono ?_
  rintro e w1 ⟨p, c, rfl, _, hx, hb⟩
  have X1 := Lib.hid hx; have B1 := Lib.hid hb
  clear hx hb
  go_wp2_with fail
  refine (P2.out _ (E0.out.below B1.out)).mono ?_
  rintro e w2 ⟨q, d, rfl, _, hx, hb⟩
  have X2 := Lib.hid (X1.out.below hb); have Y2 := Lib.hid hx; have B2 := Lib.hid (B1.out.trans (hb.mono B1.out.size))
  clear hx hb
  go_wp2_with fail
  refine (less_any p q n m c d xs ys R _ X2.out Y2.out HN.out HM.out (by omega) (by omega) HR.out).mono ?_
  rintro e w3 ⟨rfl, hb⟩
  have B3 := Lib.hid (B2.out.trans (hb.mono B2.out.size))
  clear hb
  go_wp2_with fail
  go_ret2
  exact ⟨rfl, B3.out⟩

set_option maxRecDepth 100000 in
theorem refCompare_no (a b : ByteArray) (xs ys : List Int) (w : World) (hE : Env w) (n m : Nat) (E F : Int) (hEF : (E = 3) ∨ (E = 0 ∧ F = 3)) (h1 : PAns 93 a xs n E) (h2 : PAns 93 b ys m F) :
    Calls Tryz.prog 79 #[.string a, .string b] w fun e w' => e = .returned (.tuple #[.int .i64 0, .int .i64 3]) ∧ Below w.heap.size w w' := by
  have P1 := Lib.hid h1; have P2 := Lib.hid h2; have E0 := Lib.hid hE
  clear h1 h2 hE
  rcases hEF with rfl | ⟨rfl, rfl⟩ <;> {
    go_enter Tryz.func79, Tryz.ntmps79
    go_wp2_with fail
    refine (P1.out _ E0.out).mono ?_
    rintro e w1 ⟨p, c, rfl, _, _, hb⟩
    have B1 := Lib.hid hb
    clear hb
    go_wp2_with fail
    refine (P2.out _ (E0.out.below B1.out)).mono ?_
    rintro e w2 ⟨q, d, rfl, _, _, hb⟩
    have B2 := Lib.hid (B1.out.trans (hb.mono B1.out.size))
    clear hb
    go_wp2_with fail
    go_ret2
    exact ⟨rfl, B2.out⟩ }


theorem CompareR_any (a b : ByteArray) (w : World) (hE : Env w) (ha : a.size ≤ 1000000000000) (hb : b.size ≤ 1000000000000) :
    Calls Tryz.prog 79 #[.string a, .string b] w fun e w' => ∃ E, e = .returned (.tuple #[.int .i64 (cmpC a b), .int .i64 E]) ∧ Below w.heap.size w w' := by
  unfold cmpC
  rcases refParse_ans a ha with ⟨xs, h1, h2⟩ | ⟨h1, h2⟩
  · rcases refParse_ans b hb with ⟨ys, k1, k2⟩ | ⟨k1, k2⟩
    · rw [codeN_some.2 h1, codeN_some.2 k1]
      exact (refCompare_ok a b xs ys w hE _ _ rfl rfl h1.len6 k1.len6 h2 k2).mono fun e w' ⟨h, k⟩ => ⟨_, h, k⟩
    · rw [codeN_some.2 h1, codeN_none.2 k1]
      exact (refCompare_no a b xs [] w hE _ _ _ _ (.inr ⟨rfl, rfl⟩) h2 k2).mono fun e w' ⟨h, k⟩ => ⟨_, h, k⟩
  · rw [codeN_none.2 h1]
    rcases refParse_ans b hb with ⟨ys, k1, k2⟩ | ⟨k1, k2⟩
    · exact (refCompare_no a b [] ys w hE _ _ _ _ (.inl rfl) h2 k2).mono fun e w' ⟨h, k⟩ => ⟨_, h, k⟩
    · exact (refCompare_no a b [] [] w hE _ _ _ _ (.inl rfl) h2 k2).mono fun e w' ⟨h, k⟩ => ⟨_, h, k⟩

end Go.Proofs.YtbjbioiggjhknaaGreatDoor
