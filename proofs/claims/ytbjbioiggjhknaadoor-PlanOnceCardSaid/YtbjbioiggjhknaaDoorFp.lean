/-
  Small plans, as the statements' own test finds them. No statement of the seat is proved here.
-/
import Derived.Test.YtbjbioiggjhknaaDoorKp
import Derived.Test.YtbjbioiggjhknaaDoorHs
import Derived.Deep.Cut
namespace Go.Proofs.YtbjbioiggjhknaaDoor
open Go Go.RowKit

/-- A plan that is small enough for the statements. -/
def FewP (x : Pln) : Prop := (x.cs.length ≤ 129) ∧ x.ms.length ≤ 16 ∧ (∀ y ∈ x.cs, y.c.size ≤ 100 ∧ y.t.size ≤ 100) ∧ (∀ y ∈ x.ms, y.c.size ≤ 100 ∧ y.t.size ≤ 100)

def FewAns (Q : Prop) (w : World) (e : Ending) (w' : World) : Prop := ∃ B, e = .returned (.bool B) ∧ (B = true → Q) ∧ Below w.heap.size w w'
theorem FewAns.no {Q : Prop} {w w' : World} (h : Below w.heap.size w w') : FewAns Q w (.returned (.bool false)) w' := ⟨false, rfl, fun k => Bool.noConfusion k, h⟩
theorem FewAns.yes {Q : Prop} {w w' : World} (q : Q) (h : Below w.heap.size w w') : FewAns Q w (.returned (.bool true)) w' := ⟨true, rfl, fun _ => q, h⟩

set_option maxRecDepth 100000 in
set_option maxHeartbeats 8000000 in
theorem FewPlan_any (x : Pln) (w : World) (hP : PlnOk w x) :
    Calls Tryd.prog 13 #[x.val] w (FewAns (FewP x) w) := by
  have P0 := Lib.hid hP
  obtain ⟨W1, hW1⟩ : ∃ W1, W1 = w.alloc (.cells #[.int .i64 x.v, .int .i64 x.f, .int .i64 x.u, .slice x.cp x.cs.length x.cc, .slice x.mp x.ms.length x.mc] 34) := ⟨_, rfl⟩
  obtain ⟨b, hb⟩ : ∃ b, b = w.heap.size := ⟨_, rfl⟩
  have B1 : Hid (Below w.heap.size w W1) := by rw [hW1]; exact (Below.refl _ _).alloc (Nat.le_refl _) _
  have X1 : Hid (PlnAt W1 b 0 x) := by
    rw [hW1, hb]
    exact ⟨World.cell?_alloc_new w _ 34 0, World.cell?_alloc_new w _ 34 1, World.cell?_alloc_new w _ 34 2, World.cell?_alloc_new w _ 34 3, World.cell?_alloc_new w _ 34 4⟩
  unfold Pln.val
  obtain ⟨n, hl⟩ : ∃ n, x.cs.length = n := ⟨_, rfl⟩
  obtain ⟨m, hm⟩ : ∃ m, x.ms.length = m := ⟨_, rfl⟩
  rw [hl, hm] at hW1 ⊢
  have HL := Lib.hid hl; have HM := Lib.hid hm
  have c3 := X1.out.2.2.2.1; have c4 := X1.out.2.2.2.2
  rw [hl] at c3; rw [hm] at c4
  rw [hW1, hb] at c3 c4
  clear hP hl hm
  by_cases q1 : 16 < n ∧ n ≠ 129
  · have e1 : decide ((16 : Int) < (n : Int)) = true := decide_eq_true (by omega)
    have e2 : ((n : Int) != 129) = true := by simp; omega
    have e1' : decide (16 < n) = true := decide_eq_true (by omega)
    have e2' : decide (n = 129) = false := decide_eq_false (by omega)
    clear q1
    go_enter Tryd.func13, Tryd.ntmps13
    go_wp2_with fail
    try rw [← hW1]
    go_ret
    exact FewAns.no B1.out
  by_cases q2 : 16 < m
  · have e3 : decide ((16 : Int) < (m : Int)) = true := decide_eq_true (by omega)
    have e3' : decide (16 < m) = true := decide_eq_true (by omega)
    go_enter Tryd.func13, Tryd.ntmps13
    rcases (show n ≤ 16 ∨ n = 129 by omega) with g | g
    · have e1 : decide ((16 : Int) < (n : Int)) = false := decide_eq_false (by omega)
      have e1' : decide (16 < n) = false := decide_eq_false (by omega)
      clear q1 q2 g
      go_wp2_with fail
      try rw [← hW1]
      go_ret
      exact FewAns.no B1.out
    · subst g
      clear q1 q2
      go_wp2_with fail
      try rw [← hW1]
      go_ret
      exact FewAns.no B1.out
  have e3 : decide ((16 : Int) < (m : Int)) = false := decide_eq_false (by omega)
  have e3' : decide (16 < m) = false := decide_eq_false (by omega)
  have n1 : n ≤ 129 := by omega
  have m1 : m ≤ 16 := by omega
  have N1 := Lib.hid n1; have M1 := Lib.hid m1
  go_enter Tryd.func13, Tryd.ntmps13
  rcases (show n ≤ 16 ∨ n = 129 by omega) with g | g
  · have e1 : decide ((16 : Int) < (n : Int)) = false := decide_eq_false (by omega)
    have e1' : decide (16 < n) = false := decide_eq_false (by omega)
    clear q1 q2 g
    go_wp2_with fail
    rw [← hW1, ← hb]
    clear hW1 hb c3 c4
    go_loopw [3] (fun i wr => ∃ k : Nat, k ≤ n ∧ i = .int .i64 k ∧ (∀ j y, j < k → x.cs[j]? = some y → y.c.size ≤ 100 ∧ y.t.size ≤ 100) ∧ Below w.heap.size w wr ∧ PlnAt wr b 0 x) (fun i _ => n - (intOf i).toNat)
    case atStart => exact ⟨0, Nat.zero_le _, rfl, fun j y h => absurd h (Nat.not_lt_zero _), B1.out, X1.out⟩
    case round =>
      obtain ⟨k, hk, rfl, hs, hbw, hx⟩ := hrel
      have S3 := Lib.hid hs; have B3 := Lib.hid hbw; have X3 := Lib.hid hx
      have c3 := X3.out.2.2.2.1; have c4 := X3.out.2.2.2.2
      rw [HL.out] at c3; rw [HM.out] at c4
      have zb0 : b < wr.heap.size := hx.lt
      by_cases hkn : k < n
      · obtain ⟨y, hy⟩ : ∃ y, x.cs[k]? = some y := ⟨_, List.getElem?_eq_getElem (by rw [HL.out]; exact hkn)⟩
        obtain ⟨blk, off, hnp, hpc⟩ := (P0.out.1.next hbw).get hy
        have y0 := hpc.1; have y1 := hpc.2
        have zb := hpc.lt
        have HY := Lib.hid hy
        have hkd : decide ((k : Int) < (n : Int)) = true := by simp; omega
        rw [hnp] at c3
        clear hs hbw hx hpc hy
        by_cases s1 : 100 < y.c.size
        · have f1 : decide ((100 : Int) < (y.c.size : Int)) = true := by simp; omega
          clear s1
          go_wp2_with fail
          go_ret
          exact FewAns.no B3.out
        have f1 : decide ((100 : Int) < (y.c.size : Int)) = false := by simp; omega
        by_cases s2 : 100 < y.t.size
        · have f2 : decide ((100 : Int) < (y.t.size : Int)) = true := by simp; omega
          clear s1 s2
          go_wp2_with fail
          go_ret
          exact FewAns.no B3.out
        have f2 : decide ((100 : Int) < (y.t.size : Int)) = false := by simp; omega
        have SN : Hid (∀ j y, j < k + 1 → x.cs[j]? = some y → y.c.size ≤ 100 ∧ y.t.size ≤ 100) := fun j z hj hz => by
          rcases (show j < k ∨ j = k by omega) with g | g
          · exact S3.out j z g hz
          · subst g
            obtain rfl : y = z := Option.some.inj (HY.out.symm.trans hz)
            omega
        clear s1 s2
        go_wp2_with fail
        go_roundw
        case rel => exact ⟨k + 1, hkn, by go_num, SN.out, B3.out, X3.out⟩
        case measure => simp [intOf]; omega
      · have hkd : decide ((k : Int) < (n : Int)) = false := by simp; omega
        have SK : Hid (∀ y ∈ x.cs, y.c.size ≤ 100 ∧ y.t.size ≤ 100) := fun y hy => by
          obtain ⟨j, hj⟩ := List.getElem?_of_mem hy
          exact S3.out j y (by have := (List.getElem?_eq_some_iff.1 hj).1; have := HL.out; omega) hj
        clear hs hbw hx
        go_wp2_with fail
        have SK3 := SK
        clear SK hkd c3 c4
        go_loopw [4] (fun i wr => ∃ k : Nat, k ≤ m ∧ i = .int .i64 k ∧ (∀ j y, j < k → x.ms[j]? = some y → y.c.size ≤ 100 ∧ y.t.size ≤ 100) ∧ Below w.heap.size w wr ∧ PlnAt wr b 0 x) (fun i _ => m - (intOf i).toNat)
        case atStart => exact ⟨0, Nat.zero_le _, rfl, fun j y h => absurd h (Nat.not_lt_zero _), B3.out, X3.out⟩
        case round =>
          obtain ⟨k, hk, rfl, hs, hbw, hx⟩ := hrel
          have S4 := Lib.hid hs; have B4 := Lib.hid hbw; have X4 := Lib.hid hx
          have c3 := X4.out.2.2.2.1; have c4 := X4.out.2.2.2.2
          rw [HL.out] at c3; rw [HM.out] at c4
          have zb0 : b < wr.heap.size := hx.lt
          by_cases hkn : k < m
          · obtain ⟨y, hy⟩ : ∃ y, x.ms[k]? = some y := ⟨_, List.getElem?_eq_getElem (by rw [HM.out]; exact hkn)⟩
            obtain ⟨blk, off, hnp, hpc⟩ := (P0.out.2.next hbw).get hy
            have y0 := hpc.1; have y1 := hpc.2
            have zb := hpc.lt
            have HY := Lib.hid hy
            have hkd : decide ((k : Int) < (m : Int)) = true := by simp; omega
            rw [hnp] at c4
            clear hs hbw hx hpc hy
            by_cases s1 : 100 < y.c.size
            · have f1 : decide ((100 : Int) < (y.c.size : Int)) = true := by simp; omega
              clear s1
              go_wp2_with fail
              go_ret
              exact FewAns.no B4.out
            have f1 : decide ((100 : Int) < (y.c.size : Int)) = false := by simp; omega
            by_cases s2 : 100 < y.t.size
            · have f2 : decide ((100 : Int) < (y.t.size : Int)) = true := by simp; omega
              clear s1 s2
              go_wp2_with fail
              go_ret
              exact FewAns.no B4.out
            have f2 : decide ((100 : Int) < (y.t.size : Int)) = false := by simp; omega
            have SN : Hid (∀ j y, j < k + 1 → x.ms[j]? = some y → y.c.size ≤ 100 ∧ y.t.size ≤ 100) := fun j z hj hz => by
              rcases (show j < k ∨ j = k by omega) with g | g
              · exact S4.out j z g hz
              · subst g
                obtain rfl : y = z := Option.some.inj (HY.out.symm.trans hz)
                omega
            clear s1 s2
            go_wp2_with fail
            go_roundw
            case rel => exact ⟨k + 1, hkn, by go_num, SN.out, B4.out, X4.out⟩
            case measure => simp [intOf]; omega
          · have hkd : decide ((k : Int) < (m : Int)) = false := by simp; omega
            have SK : Hid (∀ y ∈ x.ms, y.c.size ≤ 100 ∧ y.t.size ≤ 100) := fun y hy => by
              obtain ⟨j, hj⟩ := List.getElem?_of_mem hy
              exact S4.out j y (by have := (List.getElem?_eq_some_iff.1 hj).1; have := HM.out; omega) hj
            clear hs hbw hx
            go_wp2_with fail
            go_ret
            exact FewAns.yes ⟨by have := HL.out; have := N1.out; omega, by have := HM.out; have := M1.out; omega, SK3.out, SK.out⟩ B4.out

  · have e1 : decide ((16 : Int) < (n : Int)) = true := decide_eq_true (by omega)
    have e1' : decide (16 < n) = true := decide_eq_true (by omega)
    have e2 : ((n : Int) != 129) = false := by simp; omega
    clear q1 q2 g
    go_wp2_with fail
    rw [← hW1, ← hb]
    clear hW1 hb c3 c4
    go_loopw [3] (fun i wr => ∃ k : Nat, k ≤ n ∧ i = .int .i64 k ∧ (∀ j y, j < k → x.cs[j]? = some y → y.c.size ≤ 100 ∧ y.t.size ≤ 100) ∧ Below w.heap.size w wr ∧ PlnAt wr b 0 x) (fun i _ => n - (intOf i).toNat)
    case atStart => exact ⟨0, Nat.zero_le _, rfl, fun j y h => absurd h (Nat.not_lt_zero _), B1.out, X1.out⟩
    case round =>
      obtain ⟨k, hk, rfl, hs, hbw, hx⟩ := hrel
      have S3 := Lib.hid hs; have B3 := Lib.hid hbw; have X3 := Lib.hid hx
      have c3 := X3.out.2.2.2.1; have c4 := X3.out.2.2.2.2
      rw [HL.out] at c3; rw [HM.out] at c4
      have zb0 : b < wr.heap.size := hx.lt
      by_cases hkn : k < n
      · obtain ⟨y, hy⟩ : ∃ y, x.cs[k]? = some y := ⟨_, List.getElem?_eq_getElem (by rw [HL.out]; exact hkn)⟩
        obtain ⟨blk, off, hnp, hpc⟩ := (P0.out.1.next hbw).get hy
        have y0 := hpc.1; have y1 := hpc.2
        have zb := hpc.lt
        have HY := Lib.hid hy
        have hkd : decide ((k : Int) < (n : Int)) = true := by simp; omega
        rw [hnp] at c3
        clear hs hbw hx hpc hy
        by_cases s1 : 100 < y.c.size
        · have f1 : decide ((100 : Int) < (y.c.size : Int)) = true := by simp; omega
          clear s1
          go_wp2_with fail
          go_ret
          exact FewAns.no B3.out
        have f1 : decide ((100 : Int) < (y.c.size : Int)) = false := by simp; omega
        by_cases s2 : 100 < y.t.size
        · have f2 : decide ((100 : Int) < (y.t.size : Int)) = true := by simp; omega
          clear s1 s2
          go_wp2_with fail
          go_ret
          exact FewAns.no B3.out
        have f2 : decide ((100 : Int) < (y.t.size : Int)) = false := by simp; omega
        have SN : Hid (∀ j y, j < k + 1 → x.cs[j]? = some y → y.c.size ≤ 100 ∧ y.t.size ≤ 100) := fun j z hj hz => by
          rcases (show j < k ∨ j = k by omega) with g | g
          · exact S3.out j z g hz
          · subst g
            obtain rfl : y = z := Option.some.inj (HY.out.symm.trans hz)
            omega
        clear s1 s2
        go_wp2_with fail
        go_roundw
        case rel => exact ⟨k + 1, hkn, by go_num, SN.out, B3.out, X3.out⟩
        case measure => simp [intOf]; omega
      · have hkd : decide ((k : Int) < (n : Int)) = false := by simp; omega
        have SK : Hid (∀ y ∈ x.cs, y.c.size ≤ 100 ∧ y.t.size ≤ 100) := fun y hy => by
          obtain ⟨j, hj⟩ := List.getElem?_of_mem hy
          exact S3.out j y (by have := (List.getElem?_eq_some_iff.1 hj).1; have := HL.out; omega) hj
        clear hs hbw hx
        go_wp2_with fail
        have SK3 := SK
        clear SK hkd c3 c4
        go_loopw [4] (fun i wr => ∃ k : Nat, k ≤ m ∧ i = .int .i64 k ∧ (∀ j y, j < k → x.ms[j]? = some y → y.c.size ≤ 100 ∧ y.t.size ≤ 100) ∧ Below w.heap.size w wr ∧ PlnAt wr b 0 x) (fun i _ => m - (intOf i).toNat)
        case atStart => exact ⟨0, Nat.zero_le _, rfl, fun j y h => absurd h (Nat.not_lt_zero _), B3.out, X3.out⟩
        case round =>
          obtain ⟨k, hk, rfl, hs, hbw, hx⟩ := hrel
          have S4 := Lib.hid hs; have B4 := Lib.hid hbw; have X4 := Lib.hid hx
          have c3 := X4.out.2.2.2.1; have c4 := X4.out.2.2.2.2
          rw [HL.out] at c3; rw [HM.out] at c4
          have zb0 : b < wr.heap.size := hx.lt
          by_cases hkn : k < m
          · obtain ⟨y, hy⟩ : ∃ y, x.ms[k]? = some y := ⟨_, List.getElem?_eq_getElem (by rw [HM.out]; exact hkn)⟩
            obtain ⟨blk, off, hnp, hpc⟩ := (P0.out.2.next hbw).get hy
            have y0 := hpc.1; have y1 := hpc.2
            have zb := hpc.lt
            have HY := Lib.hid hy
            have hkd : decide ((k : Int) < (m : Int)) = true := by simp; omega
            rw [hnp] at c4
            clear hs hbw hx hpc hy
            by_cases s1 : 100 < y.c.size
            · have f1 : decide ((100 : Int) < (y.c.size : Int)) = true := by simp; omega
              clear s1
              go_wp2_with fail
              go_ret
              exact FewAns.no B4.out
            have f1 : decide ((100 : Int) < (y.c.size : Int)) = false := by simp; omega
            by_cases s2 : 100 < y.t.size
            · have f2 : decide ((100 : Int) < (y.t.size : Int)) = true := by simp; omega
              clear s1 s2
              go_wp2_with fail
              go_ret
              exact FewAns.no B4.out
            have f2 : decide ((100 : Int) < (y.t.size : Int)) = false := by simp; omega
            have SN : Hid (∀ j y, j < k + 1 → x.ms[j]? = some y → y.c.size ≤ 100 ∧ y.t.size ≤ 100) := fun j z hj hz => by
              rcases (show j < k ∨ j = k by omega) with g | g
              · exact S4.out j z g hz
              · subst g
                obtain rfl : y = z := Option.some.inj (HY.out.symm.trans hz)
                omega
            clear s1 s2
            go_wp2_with fail
            go_roundw
            case rel => exact ⟨k + 1, hkn, by go_num, SN.out, B4.out, X4.out⟩
            case measure => simp [intOf]; omega
          · have hkd : decide ((k : Int) < (m : Int)) = false := by simp; omega
            have SK : Hid (∀ y ∈ x.ms, y.c.size ≤ 100 ∧ y.t.size ≤ 100) := fun y hy => by
              obtain ⟨j, hj⟩ := List.getElem?_of_mem hy
              exact S4.out j y (by have := (List.getElem?_eq_some_iff.1 hj).1; have := HM.out; omega) hj
            clear hs hbw hx
            go_wp2_with fail
            go_ret
            exact FewAns.yes ⟨by have := HL.out; have := N1.out; omega, by have := HM.out; have := M1.out; omega, SK3.out, SK.out⟩ B4.out


end Go.Proofs.YtbjbioiggjhknaaDoor
