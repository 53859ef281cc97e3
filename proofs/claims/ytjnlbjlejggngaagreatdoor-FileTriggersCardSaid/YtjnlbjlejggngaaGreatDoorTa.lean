/-
  The reference's on and State. No statement of the seat is proved here.
-/
import Derived.Test.YtjnlbjlejggngaaGreatDoorFt
namespace Go.Proofs.YtjnlbjlejggngaaGreatDoor
open Go Go.RowKit

set_option maxHeartbeats 2000000 in
theorem onR_any (x d : Int) (w : World) : Calls Tryz.prog 58 #[.int .i64 x, .int .i64 d] w fun e w' => e = .returned (datV (pas x d)) ∧ Below w.heap.size w w' := by
  by_cases h : x ≤ d
  · have e : decide (x > d) = false := by simp; omega
    have hp : pas x d = some (x, x) := if_pos h
    rw [hp]
    clear h hp
    unfold datV
    go_enter Tryz.func58, Tryz.ntmps58
    go_wp2
    exact bodyPost_ret (by simp [results, Tryz.results58, go_sem]) rfl ⟨rfl, by go_grown⟩
  · have e : decide (x > d) = true := by simp; omega
    have hp : pas x d = none := if_neg h
    rw [hp]
    clear h hp
    unfold datV
    go_enter Tryz.func58, Tryz.ntmps58
    go_wp2
    exact bodyPost_ret (by simp [results, Tryz.results58, go_sem]) rfl ⟨rfl, by go_grown⟩

set_option maxHeartbeats 2000000 in
theorem StateR_any (x : Fil) (d : Int) (w : World) : Calls Tryz.prog 30 #[x.val, .int .i64 d] w fun e w' => e = .returned (.int .i64 (staI x d)) ∧ Below w.heap.size w w' := by
  unfold staI Fil.val Fil.cells
  obtain ⟨n, hl⟩ : ∃ n, x.ns.length = n := ⟨_, rfl⟩
  rw [hl]
  by_cases h : d < x.op
  · have e : decide (d < x.op) = true := decide_eq_true h
    rw [if_pos h]
    clear h
    go_enter Tryz.func30, Tryz.ntmps30
    go_wp2
    go_ret
    exact ⟨rfl, by go_grown⟩
  · have e : decide (d < x.op) = false := decide_eq_false h
    rw [if_neg h]
    clear h
    by_cases h : d < x.cl
    · have e : decide (d < x.cl) = true := decide_eq_true h
      rw [if_pos h]
      clear h
      go_enter Tryz.func30, Tryz.ntmps30
      go_wp2
      go_ret
      exact ⟨rfl, by go_grown⟩
    · have e : decide (d < x.cl) = false := decide_eq_false h
      rw [if_neg h]
      clear h
      go_enter Tryz.func30, Tryz.ntmps30
      go_wp2
      go_ret
      exact ⟨rfl, by go_grown⟩

end Go.Proofs.YtjnlbjlejggngaaGreatDoor
