/-
  What the laws share: Check with the memory that it leaves, the opening of a dating, a boxed dating behind a call. No statement of the seat is proved here.
-/
import Derived.Test.YtjpiaccpcmlfnaaDoorKit
import Derived.Lib.SmallJoins
import Derived.Deep.RegionHeld3
namespace Go.Proofs.YtjpiaccpcmlfnaaDoor
open Go.ChangeShapes Go.WideShapes Go.ChangeAt Go.RowKit Go.Joins Cal

set_option maxHeartbeats 1000000 in
theorem Check_ex (f l : Int) (w : World) :
    Calls Tryd.prog 16 #[.agg #[.int .i64 f, .int .i64 l]] w fun e w' => e = .returned (.int .i64 (chk f l)) ∧ w' = w.alloc (.cells #[.int .i64 f, .int .i64 l] 23) := by
  go_enter Tryd.func16, Tryd.ntmps16
  go_wp2
  all_goals
    go_ret
    refine ⟨ret_int ?_, rfl⟩
    try simp only [Bool.not_eq_false', Bool.not_eq_true', decide_eq_true_eq, decide_eq_false_iff_not, Bool.and_eq_true, Bool.and_eq_false_imp, beq_iff_eq, bne_iff_ne, beq_eq_false_iff_ne, ne_eq, Decidable.not_not] at *
    first | (rw [chk_yes (by omega)]; done) | (rw [chk_no (by omega)]; done)

set_option maxHeartbeats 1000000 in
theorem refCheck_ex (f l : Int) (w : World) :
    Calls Tryd.prog 17 #[.agg #[.int .i64 f, .int .i64 l]] w fun e w' => e = .returned (.int .i64 (chk f l)) ∧ w' = (w.alloc (.cells #[.int .i64 f, .int .i64 l] 23)).alloc (.cells #[.int .i64 f, .int .i64 l] 23) := by
  go_enter Tryd.func17, Tryd.ntmps17
  go_wp2
  all_goals
    go_ret
    refine ⟨ret_int ?_, rfl⟩
    try simp only [Bool.not_eq_false', Bool.not_eq_true', decide_eq_true_eq, decide_eq_false_iff_not, Bool.and_eq_true, Bool.and_eq_false_imp, beq_iff_eq, bne_iff_ne, beq_eq_false_iff_ne, ne_eq, Decidable.not_not] at *
    first | (rw [chk_yes (by omega)]; done) | (rw [chk_no (by omega)]; done)

/-- A dating in a box, as two cells. -/
def Box (w : World) (k : Nat) (a b : Int) : Prop := HoldsN 2 w k (fun i => [Value.int .i64 a, Value.int .i64 b].getD i undef)
theorem Box.new (w : World) (a b : Int) : Box (w.alloc (.cells #[.int .i64 a, .int .i64 b] 23)) w.heap.size a b := HoldsN.new w [.int .i64 a, .int .i64 b] 23 2 rfl
theorem Box.c0 {w : World} {k : Nat} {a b : Int} (h : Box w k a b) : w.cell? ⟨k, 0, none⟩ = some (.int .i64 a) := HoldsN.cell h 0 (by omega)
theorem Box.c1 {w : World} {k : Nat} {a b : Int} (h : Box w k a b) : w.cell? ⟨k, 1, none⟩ = some (.int .i64 b) := HoldsN.cell h 1 (by omega)
theorem Box.lt {w : World} {k : Nat} {a b : Int} (h : Box w k a b) : k < w.heap.size := h.1
theorem Box.alloc {w : World} {k : Nat} {a b : Int} (h : Box w k a b) (o : Obj) : Box (w.alloc o) k a b := HoldsN.alloc h o
theorem Box.next {w w' : World} {k : Nat} {a b : Int} (h : Box w k a b) (hb : Below w.heap.size w w') : Box w' k a b := HoldsN.below h hb h.1

theorem keep1 {w : World} {p : Addr} {v : Value} (h : w.cell? p = some v) (o : Obj) : (w.alloc o).cell? p = some v :=
  (World.cell?_alloc_lt w o p (World.block_lt_of_cell? w p h)).trans h
theorem keep3 {w : World} {p : Addr} {v : Value} (h : w.cell? p = some v) (o o' o'' : Obj) : (((w.alloc o).alloc o').alloc o'').drew.cell? p = some v :=
  keep1 (keep1 (keep1 h o) o') o''
theorem cells23 : Tryd.prog.cellsOf 23 = 2 := by kernel_rfl
theorem open_dat {H : Type} {enc : TypeId × Value → H} {W : World} {base : Nat} {v : Value} {d : DataW H} {p : List MemPlace} (hv : Value.okWide Tryd.prog W .any base 23 v) (h : DataW.Trod enc Tryd.prog W 0 (fun _ => true) true 23 v d p) :
    ∃ a b : Int, v = .agg #[.int .i64 a, .int .i64 b] := by
  obtain ⟨v0, v1, y0, y1, n, rfl, _, _, h0, h1⟩ := open_agg2 Tryd.underlying23 (by kernel_rfl) cells23 hv h
  obtain ⟨x0, e0, rfl, _⟩ := DataW.trod_int Tryd.underlying3 h0
  obtain ⟨x1, e1, rfl, _⟩ := DataW.trod_int Tryd.underlying3 h1
  exact ⟨x0, x1, by simp at e0 e1; rw [e0, e1]⟩
end Go.Proofs.YtjpiaccpcmlfnaaDoor
