/-
  The example of the chapter that each law checks first, walked over the program's text. No statement of the seat is proved here.
-/
import Derived.Test.YtojmolemhdonfaaDoorAbc
namespace Go.Proofs.YtojmolemhdonfaaDoor
open Go.RowKit Kec

theorem Tabs.next {w w' : World} (h : Tabs w) (hb : Below w.heap.size w w') : Tabs w' := h.below hb h.lt
set_option maxRecDepth 100000 in
set_option maxHeartbeats 2000000 in
theorem awake_true (w : World) (hT : Tabs w) :
    Calls Tryd.prog 10 #[] w fun e w' => e = .returned (.bool true) ∧ Below w.heap.size w w' := by
  have F1 : ∀ w, Tabs w → Calls Tryd.prog 13 #[.string abc] w fun e w' => e = .returned (.string dAbc) ∧ Below w.heap.size w w' := fun w h => by
    have := sum_any abc w h (by decide)
    rw [sum_abc] at this
    exact this
  have F2 : ∀ w, Calls Tryd.prog 15 #[.string dAbc] w fun e w' => e = .returned (.tuple #[.string hAbc, .int .i64 0]) ∧ Below w.heap.size w w' := fun w => by
    have := hex_yes dAbc w (by decide)
    rw [hex_abc] at this
    exact this
  have F3 : ∀ w, Calls Tryd.prog 17 #[.string hAbc] w fun e w' => e = .returned (.tuple #[.string dAbc, .int .i64 0]) ∧ Below w.heap.size w w' := fun w => by
    refine (parse_any hAbc w (by decide)).mono ?_
    rintro e w' ⟨h | h, hb⟩
    · rw [par_abc] at h; exact ⟨h.2, hb⟩
    · exact absurd ok_abc h.1
  unfold abc at F1
  unfold hAbc at F2 F3
  have G1 := Lib.hid F1; have G2 := Lib.hid F2; have G3 := Lib.hid F3; have HT := Lib.hid hT
  clear F1 F2 F3 hT
  go_enter Tryd.func10, Tryd.ntmps10
  go_wp2_with fail
  refine (G1.out w HT.out).mono ?_
  rintro e w1 ⟨rfl, hb1⟩
  have HT1 := Lib.hid (HT.out.next hb1); have N1 := Lib.hid hb1
  clear hb1
  go_wp2_with fail
  refine (G2.out w1).mono ?_
  rintro e w2 ⟨rfl, hb2⟩
  have HT2 := Lib.hid (HT1.out.next hb2); have N2 := Lib.hid (N1.out.trans (hb2.mono N1.out.size))
  clear hb2
  go_wp2_with fail
  refine (G3.out w2).mono ?_
  rintro e w3 ⟨rfl, hb3⟩
  have HT3 := Lib.hid (HT2.out.next hb3); have N3 := Lib.hid (N2.out.trans (hb3.mono N2.out.size))
  clear hb3
  go_wp2_with fail
  refine (G1.out w3 HT3.out).mono ?_
  rintro e w4 ⟨rfl, hb4⟩
  have N4 := Lib.hid (N3.out.trans (hb4.mono N3.out.size))
  clear hb4
  go_wp2
  go_ret
  exact ⟨rfl, N4.out⟩
end Go.Proofs.YtojmolemhdonfaaDoor
