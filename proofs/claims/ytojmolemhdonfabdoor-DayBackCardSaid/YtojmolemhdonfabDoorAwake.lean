/-
  The example of the chapter that each law checks first, walked over the program's text. No statement of the seat is proved here.
-/
import Derived.Test.YtojmolemhdonfabDoorWalks4
namespace Go.Proofs.YtojmolemhdonfabDoor
open Go.RowKit Cal

theorem Table.lt {w : World} (h : Table w) : 0 < w.heap.size := World.block_lt_of_cell? w ⟨0, 0, none⟩ (h 0 (by omega))
theorem Table.below {w w' : World} (h : Table w) (hb : Below w.heap.size w w') : Table w' := fun i hi => (hb.cell (p := ⟨0, i, none⟩) h.lt).trans (h i hi)

theorem day59 : IsDate 59 1600 2 29 := by refine ⟨⟨?_, ?_, ?_, ?_, ?_, ?_⟩, ?_⟩ <;> decide
theorem dayLast : IsDate 1048575 4470 11 25 := by refine ⟨⟨?_, ?_, ?_, ?_, ?_, ?_⟩, ?_⟩ <;> decide
theorem dayFirst : IsDate 0 1600 1 1 := by refine ⟨⟨?_, ?_, ?_, ?_, ?_, ?_⟩, ?_⟩ <;> decide
theorem years59 : lastV (1600 + 1) 2 (day28 1600 2 29 1) = 424 := by decide
theorem of59 : ofV 1600 2 29 = 59 := by decide
theorem of59e : ofE 1600 2 29 = 0 := by decide
theorem txtLast : strOfNums (txt 4470 11 25) = { data := #[52, 52, 55, 48, 45, 49, 49, 45, 50, 53] } := by decide

set_option maxHeartbeats 1000000 in
theorem awake_true (w : World) (hT : Table w) :
    Calls Tryd.prog 10 #[] w fun e w' => e = .returned (.bool true) ∧ Below w.heap.size w w' := by
  have HT := Lib.hid hT
  have f1 := Of_any 1600 2 29 w hT
  rw [of59, of59e] at f1
  have f2 := Years_is 59 1 1600 2 29 w hT (by omega) (by omega) day59 (by omega) (by omega)
  rw [years59] at f2
  have f3 := Format_is 1048575 4470 11 25 w hT (by omega) (by omega) dayLast
  rw [txtLast] at f3
  have F1 := Lib.hid f1; have F2 := Lib.hid f2; have F3 := Lib.hid f3
  clear f1 f2 f3 hT
  go_enter Tryd.func10, Tryd.ntmps10
  go_wp2_with fail
  refine F1.out.mono ?_
  rintro e w' ⟨rfl, rfl⟩
  go_wp2_with fail
  refine F2.out.mono ?_
  rintro e w' ⟨rfl, rfl⟩
  go_wp2_with fail
  refine F3.out.mono ?_
  rintro e w1 ⟨rfl, hb⟩
  go_wp2_with fail
  refine (Weekday_yes 60 w1 (by omega) (by omega)).mono ?_
  rintro e w' ⟨rfl, rfl⟩
  go_wp2
  go_ret
  exact ⟨rfl, hb⟩

end Go.Proofs.YtojmolemhdonfabDoor
