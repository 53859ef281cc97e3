/-
  Small lists of plans, as the statements' own test finds them. No statement of the seat is proved here.
-/
import Derived.Test.YtbjbioiggjhknaaDoorFp
namespace Go.Proofs.YtbjbioiggjhknaaDoor
open Go Go.RowKit

/-- Plans that are few and small. -/
def FewL (l : List Pln) : Prop := l.length ≤ 21 ∧ ∀ y ∈ l, FewP y

set_option maxRecDepth 100000 in
set_option maxHeartbeats 8000000 in
theorem FewPlans_any (p : Option Addr) (n cap : Nat) (l : List Pln) (w : World) (hL : PlnsAt w p l) (hl : l.length = n) :
    Calls Tryd.prog 6 #[.slice p n cap] w (FewAns (FewL l) w) := by
  have L0 := Lib.hid hL; have HL := Lib.hid hl
  clear hL hl
  rcases (show n ≤ 5 ∨ (5 < n ∧ n ≤ 16) ∨ (16 < n ∧ n ≤ 21) ∨ 21 < n by omega) with g | g | g | g
  · have d1 : decide ((5 : Int) < (n : Int)) = false := by simp; omega
    have d2 : decide ((n : Int) ≤ 16) = true := by simp; omega
    have d3 : decide ((21 : Int) < (n : Int)) = false := by simp; omega
    have n21 : n ≤ 21 := by omega
    clear g
    go_enter Tryd.func6, Tryd.ntmps6
    go_wp2_with fail
    go_loopw [3] (fun i wr => ∃ k : Nat, k ≤ n ∧ i = .int .i64 k ∧ (∀ j y, j < k → l[j]? = some y → FewP y) ∧ Below w.heap.size w wr) (fun i _ => n - (intOf i).toNat)
    case atStart => exact ⟨0, Nat.zero_le _, rfl, fun j y h => absurd h (Nat.not_lt_zero _), Below.refl _ _⟩
    case round =>
      obtain ⟨k, hk, rfl, hs, hbw⟩ := hrel
      have S3 := Lib.hid hs; have B3 := Lib.hid hbw
      by_cases hkn : k < n
      · obtain ⟨y, hy⟩ : ∃ y, l[k]? = some y := ⟨_, List.getElem?_eq_getElem (by rw [HL.out]; exact hkn)⟩
        obtain ⟨blk, off, hnp, hpc, hok⟩ := (L0.out.next hbw).get hy
        have y0 := hpc.1; have y1 := hpc.2.1; have y2 := hpc.2.2.1; have y3 := hpc.2.2.2.1; have y4 := hpc.2.2.2.2
        have zb := hpc.lt
        have HY := Lib.hid hy
        have hkd : decide ((k : Int) < (n : Int)) = true := by simp; omega
        have FY := Lib.hid (FewPlan_any y wr hok)
        unfold Pln.val at FY
        rw [hnp]
        clear hs hbw hpc hy hok
        go_wp2_with fail
        refine FY.out.mono ?_
        rintro e w2 ⟨B, rfl, hB, hb2⟩
        have B4 := Lib.hid (B3.out.trans (hb2.mono B3.out.size))
        have HB := Lib.hid hB
        clear hb2 hB
        cases B with
        | false =>
          go_wp2_with fail
          go_ret
          exact FewAns.no B4.out
        | true =>
          have SN : Hid (∀ j y, j < k + 1 → l[j]? = some y → FewP y) := fun j z hj hz => by
            rcases (show j < k ∨ j = k by omega) with g | g
            · exact S3.out j z g hz
            · subst g
              obtain rfl : y = z := Option.some.inj (HY.out.symm.trans hz)
              exact HB.out rfl
          go_wp2_with fail
          go_roundw
          case rel => exact ⟨k + 1, hkn, by go_num, SN.out, B4.out⟩
          case measure => simp [intOf]; omega
      · have hkd : decide ((k : Int) < (n : Int)) = false := by simp; omega
        have SK : Hid (∀ y ∈ l, FewP y) := fun y hy => by
          obtain ⟨j, hj⟩ := List.getElem?_of_mem hy
          exact S3.out j y (by have := (List.getElem?_eq_some_iff.1 hj).1; have := HL.out; omega) hj
        clear hs hbw
        go_wp2_with fail
        go_ret
        exact FewAns.yes ⟨by have := HL.out; omega, SK.out⟩ B3.out
  · have d1 : decide ((5 : Int) < (n : Int)) = true := by simp; omega
    have d2 : decide ((n : Int) ≤ 16) = true := by simp; omega
    have d3 : decide ((21 : Int) < (n : Int)) = false := by simp; omega
    clear g
    go_enter Tryd.func6, Tryd.ntmps6
    go_wp2_with fail
    go_ret
    exact FewAns.no (Below.refl _ _)
  · have d1 : decide ((5 : Int) < (n : Int)) = true := by simp; omega
    have d2 : decide ((n : Int) ≤ 16) = false := by simp; omega
    have d3 : decide ((21 : Int) < (n : Int)) = false := by simp; omega
    have n21 : n ≤ 21 := by omega
    clear g
    go_enter Tryd.func6, Tryd.ntmps6
    go_wp2_with fail
    go_loopw [3] (fun i wr => ∃ k : Nat, k ≤ n ∧ i = .int .i64 k ∧ (∀ j y, j < k → l[j]? = some y → FewP y) ∧ Below w.heap.size w wr) (fun i _ => n - (intOf i).toNat)
    case atStart => exact ⟨0, Nat.zero_le _, rfl, fun j y h => absurd h (Nat.not_lt_zero _), Below.refl _ _⟩
    case round =>
      obtain ⟨k, hk, rfl, hs, hbw⟩ := hrel
      have S3 := Lib.hid hs; have B3 := Lib.hid hbw
      by_cases hkn : k < n
      · obtain ⟨y, hy⟩ : ∃ y, l[k]? = some y := ⟨_, List.getElem?_eq_getElem (by rw [HL.out]; exact hkn)⟩
        obtain ⟨blk, off, hnp, hpc, hok⟩ := (L0.out.next hbw).get hy
        have y0 := hpc.1; have y1 := hpc.2.1; have y2 := hpc.2.2.1; have y3 := hpc.2.2.2.1; have y4 := hpc.2.2.2.2
        have zb := hpc.lt
        have HY := Lib.hid hy
        have hkd : decide ((k : Int) < (n : Int)) = true := by simp; omega
        have FY := Lib.hid (FewPlan_any y wr hok)
        unfold Pln.val at FY
        rw [hnp]
        clear hs hbw hpc hy hok
        go_wp2_with fail
        refine FY.out.mono ?_
        rintro e w2 ⟨B, rfl, hB, hb2⟩
        have B4 := Lib.hid (B3.out.trans (hb2.mono B3.out.size))
        have HB := Lib.hid hB
        clear hb2 hB
        cases B with
        | false =>
          go_wp2_with fail
          go_ret
          exact FewAns.no B4.out
        | true =>
          have SN : Hid (∀ j y, j < k + 1 → l[j]? = some y → FewP y) := fun j z hj hz => by
            rcases (show j < k ∨ j = k by omega) with g | g
            · exact S3.out j z g hz
            · subst g
              obtain rfl : y = z := Option.some.inj (HY.out.symm.trans hz)
              exact HB.out rfl
          go_wp2_with fail
          go_roundw
          case rel => exact ⟨k + 1, hkn, by go_num, SN.out, B4.out⟩
          case measure => simp [intOf]; omega
      · have hkd : decide ((k : Int) < (n : Int)) = false := by simp; omega
        have SK : Hid (∀ y ∈ l, FewP y) := fun y hy => by
          obtain ⟨j, hj⟩ := List.getElem?_of_mem hy
          exact S3.out j y (by have := (List.getElem?_eq_some_iff.1 hj).1; have := HL.out; omega) hj
        clear hs hbw
        go_wp2_with fail
        go_ret
        exact FewAns.yes ⟨by have := HL.out; omega, SK.out⟩ B3.out
  · have d1 : decide ((5 : Int) < (n : Int)) = true := by simp; omega
    have d2 : decide ((n : Int) ≤ 16) = false := by simp; omega
    have d3 : decide ((21 : Int) < (n : Int)) = true := by simp; omega
    clear g
    go_enter Tryd.func6, Tryd.ntmps6
    go_wp2_with fail
    go_ret
    exact FewAns.no (Below.refl _ _)


end Go.Proofs.YtbjbioiggjhknaaDoor
