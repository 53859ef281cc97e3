/-
  The reference's SameNotes. No statement of the seat is proved here.
-/
import Derived.Test.YtjnlbjlejggngaaGreatDoorFt
import Derived.BigQuiet
namespace Go.Proofs.YtjnlbjlejggngaaGreatDoor
open Go Go.RowKit

set_option maxRecDepth 100000 in
set_option maxHeartbeats 8000000 in
theorem SameR_any (p q : Option Addr) (n c1 c2 : Nat) (l : List Nt) (w : World) (hP : NtsAt w p l) (hQ : NtsAt w q l) (hl : l.length = n) (hn : n ≤ 1000000000) :
    Calls Tryz.prog 26 #[.slice p n c1, .slice q n c2] w fun e w' => e = .returned (.bool true) ∧ Below w.heap.size w w' := by
  have P0 := Lib.hid hP; have Q0 := Lib.hid hQ; have HL := Lib.hid hl
  clear hP hQ hl
  go_enter Tryz.func26, Tryz.ntmps26
  go_wp2_with fail
  go_loopw [5] (fun i wr => ∃ k : Nat, k ≤ n ∧ i = .int .i64 k ∧ Below w.heap.size w wr) (fun i _ => n - (intOf i).toNat)
  case atStart => exact ⟨0, Nat.zero_le _, rfl, Below.refl _ _⟩
  case round =>
    obtain ⟨k, hk, rfl, hb⟩ := hrel
    have NB := Lib.hid hb
    by_cases hkn : k < n
    · obtain ⟨y, hy⟩ : ∃ y, l[k]? = some y := ⟨_, List.getElem?_eq_getElem (by rw [HL.out]; exact hkn)⟩
      obtain ⟨blk, off, hp, hpc⟩ := (P0.out.next hb).get hy
      obtain ⟨blk2, off2, hq, hqc⟩ := (Q0.out.next hb).get hy
      subst hp
      subst hq
      have hkd : decide ((k : Int) < (n : Int)) = true := by simp; omega
      obtain ⟨a0, a1, a2, a3⟩ := hpc
      obtain ⟨b0, b1, b2, b3⟩ := hqc
      have za := World.block_lt_of_cell? wr _ a0
      have zb := World.block_lt_of_cell? wr _ b0
      clear hb hy
      go_wp2_with fail
      go_quiet (fail)
      go_wp2_with fail
      go_roundw
      case rel => exact ⟨k + 1, hkn, by go_num, below_drewN NB.out _⟩
      case measure => simp [intOf]; omega
    · have hkd : decide ((k : Int) < (n : Int)) = false := by simp; omega
      clear hb
      go_wp2_with fail
      go_ret
      exact ⟨rfl, NB.out⟩

end Go.Proofs.YtjnlbjlejggngaaGreatDoor
