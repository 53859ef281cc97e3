/-
  The reference's Within and Good in one form; the law's own closure of PlanKeeps. No statement of the seat is proved here.
-/
import Derived.Test.YtjnlbjlejggngaaGreatDoorRa
import Derived.Test.YtjnlbjlejggngaaGreatDoorHs
namespace Go.Proofs.YtjnlbjlejggngaaGreatDoor
open Go Go.RowKit

/-- A code is another one, or below it. -/
def wit (a b : ByteArray) : Bool := match codeN (bs a), codeN (bs b) with
  | some x, some y => y.isPrefixOf x
  | _, _ => false
theorem Within_ref (a b : ByteArray) (w : World) (hE : Env w) (ha : a.size ≤ 1000000000000) (hb : b.size ≤ 1000000000000) :
    Calls Tryz.prog 19 #[.string a, .string b] w fun e w' => e = .returned (.bool (wit a b)) ∧ Below w.heap.size w w' := by
  unfold wit
  rcases refParse_ans a ha with ⟨xs, hx, px⟩ | ⟨hx, px⟩
  · rcases refParse_ans b hb with ⟨ys, hy, py⟩ | ⟨hy, py⟩
    · rw [codeN_some.2 hx, codeN_some.2 hy]
      have l6 : ys.length ≤ 6 := hy.len6
      exact refWithin_ok a b xs ys w hE _ _ rfl rfl l6 px py
    · rw [codeN_some.2 hx, codeN_none.2 hy]
      exact refWithin_no a b xs [] w hE _ _ 0 3 (.inr ⟨rfl, rfl⟩) px py
  · rw [codeN_none.2 hx]
    rcases refParse_ans b hb with ⟨ys, hy, py⟩ | ⟨hy, py⟩
    · exact refWithin_no a b [] ys w hE _ _ 3 0 (.inl rfl) px py
    · exact refWithin_no a b [] [] w hE _ _ 3 3 (.inl rfl) px py

set_option maxHeartbeats 2000000 in
theorem eqc18_any (y : Pr) (b : Nat) (s : ByteArray) (w : World) (h : w.cell? ⟨b, 0, none⟩ = some (.string s)) :
    Calls Tryz.prog 18 #[.agg #[.string y.c, .string y.t], .pointer (some ⟨b, 0, none⟩)] w fun e w' => e = .returned (.bool (decide (y.c = s))) ∧ Below w.heap.size w w' := by
  have z := World.block_lt_of_cell? w _ h
  by_cases g : y.c = s
  · have e1 := ba_eq' g
    rw [decide_eq_true g]
    clear g
    go_enter Tryz.func18, Tryz.ntmps18
    go_wp2_with fail
    go_ret
    exact ⟨rfl, by go_grown⟩
  · have e1 := ba_ne' g
    rw [decide_eq_false g]
    clear g
    go_enter Tryz.func18, Tryz.ntmps18
    go_wp2_with fail
    go_ret
    exact ⟨rfl, by go_grown⟩

end Go.Proofs.YtjnlbjlejggngaaGreatDoor
