/-
  The iterator of strings.SplitSeq at the separator '.': it yields the parts between dots, one by one. No statement of the seat is proved here.
-/
import Derived.RangeFuncNested
import Derived.RangeFuncBound
import Derived.RangeFuncCalls
import Derived.RangeFuncLeaves
import Derived.RangeFuncBox
import Derived.Shelf.Abstract
import Derived.Shelf.RegionOpen
import Derived.WalkKit
import Derived.OwnWalkIn
import Derived.TacticsInMore
import Derived.LoopNIn
import Derived.LoopIn
import Derived.Maps.AppendAt
import Derived.Lib.Hide
import Derived.Outline
import Derived.Test.YtbjbioiggjhknaaDoorCp
import Derived.Test.YtbjbioiggjhknaaDoorProg
namespace Go.Proofs.YtbjbioiggjhknaaDoor
open Go Go.RowKit Go.Shelf
attribute [local go_sem] Oper.semAt_some

/-- What strings.Index answers for one byte. -/
def IndexOne : Prop := ∀ (s : ByteArray) (c : UInt8) (w : World), Calls Tryd.prog 56 #[.string s, .string ⟨#[c]⟩] w fun e w' => e = .returned (.int .i64 (Lib.indexByte s.data.toList c)) ∧ w' = w

def bs (x : ByteArray) : List UInt8 := x.data.toList
theorem bs_len (x : ByteArray) : (bs x).length = x.size := by simp [bs]
theorem bs_extract (x : ByteArray) (a b : Nat) : bs (x.extract a b) = ((bs x).take b).drop a := by
  unfold bs
  rw [ByteArray.data_extract, Array.toList_extract, List.extract_eq_take_drop, List.drop_take]

set_option maxRecDepth 100000 in
set_option maxHeartbeats 2000000 in
theorem SplitSeq_any (s sep : ByteArray) (w : World) :
    Calls Tryd.prog 46 #[.string s, .string sep] w fun e w' => e = .returned (.func (.func 59) #[] #[.pointer (some ⟨w.heap.size + 1, 0, none⟩), .pointer (some ⟨w.heap.size, 0, none⟩), .pointer (some ⟨w.heap.size + 2, 0, none⟩)]) ∧ w' = ((w.alloc (.cells #[.string s] 9)).alloc (.cells #[.string sep] 9)).alloc (.cells #[.int .i64 0] 3) := by
  go_enter Tryd.func46, Tryd.ntmps46
  go_wp2_with go_in
  go_ret
  exact ⟨rfl, rfl⟩
theorem bs_tail (x : ByteArray) (a : Nat) : bs (x.extract a x.size) = (bs x).drop a := by
  rw [bs_extract, List.take_of_length_le (by rw [bs_len]; omega)]
theorem bs_head (x : ByteArray) (b : Nat) : bs (x.extract 0 b) = (bs x).take b := by rw [bs_extract, List.drop_zero]

/-- The length of the string in a box. -/
def strAt (w : World) (b : Nat) : Nat := match w.cell? ⟨b, 0, none⟩ with | some (.string t) => t.size | _ => 0
theorem strAt_of {w : World} {b : Nat} {t : ByteArray} (h : Boxed w b 9 (.string t)) : strAt w b = t.size := by unfold strAt; rw [h.cell]

set_option maxRecDepth 100000 in
set_option maxHeartbeats 2000000 in
theorem seq_in (hI : IndexOne) (n : Nat) (hn : 1 ≤ n) (l bsep bst bsv : Nat) (s : ByteArray) (hs : s.size ≤ 140737488355328) (J Jx : List ByteArray → World → Prop)
    (hst : ∀ pre W v, J pre W → J pre (W.setCell ⟨bst, 0, none⟩ v))
    (hJ : ∀ pre W, J pre W → Boxed W bsep 9 (.string ⟨#[46]⟩) ∧ Boxed W bsv 3 (.int .i64 0))
    (hY : ∀ pre x W v, x.size ≤ s.size → J pre W → Boxed W bst 9 v → YieldAt Fence.wide (n - 1) Tryd.prog l #[.string x] W fun e W' => Boxed W' bst 9 v ∧
      ((e = .returned (.bool true) ∧ J (pre ++ [x]) W') ∨ (e = .returned (.bool false) ∧ Jx (pre ++ [x]) W')))
    (W : World) (hb : Boxed W bst 9 (.string s)) (h0 : J [] W) :
    CallsIn Fence.wide n Tryd.prog 59 #[.func (.yield l) #[] #[], .pointer (some ⟨bsep, 0, none⟩), .pointer (some ⟨bst, 0, none⟩), .pointer (some ⟨bsv, 0, none⟩)] W fun e W' => (∃ v, e = .returned v) ∧
      ((∃ ys : List ByteArray, ys.map bs = splits (bs s) ∧ J ys W') ∨ (∃ (pre : List ByteArray) (x : ByteArray) (rest : List (List UInt8)), splits (bs s) = pre.map bs ++ bs x :: rest ∧ Jx (pre ++ [x]) W')) := by
  have k1 := (hJ _ _ h0).1.cell
  refine callsIn_of_wp Tryd.func59 rfl trivial ?_ rfl
  simp only [Tryd.ntmps59, List.size_toArray, List.length_cons, List.length_nil, Nat.reduceAdd, Nat.reduceSub, Array.replicate_succ, Array.replicate_zero, List.push_toArray, List.append_toArray, List.nil_append, List.cons_append]
  gi_wp2
  have L1 : Hid (∀ pre W, J pre W → Boxed W bsep 9 (.string ⟨#[46]⟩) ∧ Boxed W bsv 3 (.int .i64 0)) := hJ
  have L2 : Hid (∀ pre W v, J pre W → J pre (W.setCell ⟨bst, 0, none⟩ v)) := hst
  have L3 := Lib.hid hY
  have L4 := Lib.hid hI
  clear hJ hst hY hI k1
  gi_loopw [7] (fun _ wr => ∃ (pre : List ByteArray) (rest : ByteArray), J pre wr ∧ Boxed wr bst 9 (.string rest) ∧ pre.map bs ++ splits (bs rest) = splits (bs s) ∧ rest.size ≤ s.size)
    (fun _ wr => strAt wr bst)
  case atStart =>
    exact ⟨[], s, h0, hb, by simp, Nat.le_refl _⟩
  case round =>
    obtain ⟨pre, rest, hj, hbx, hsp, hle⟩ := hrel
    have HS := Lib.hid hsp
    have HJ := Lib.hid hj
    have HB := Lib.hid hbx
    have c1 := (L1.out _ _ hj).1.cell
    have c2 := (L1.out _ _ hj).2.cell
    have c3 := hbx.cell
    clear hsp hj hbx
    by_cases hx : Lib.indexByte rest.data.toList 46 = -1
    · have e1 : decide (Lib.indexByte rest.data.toList 46 < 0) = true := by rw [hx]; rfl
      have HX := Lib.hid hx
      clear hx
      gi_wp2_with fail
      refine ⟨trivial, (callsIn_wide.2 (L4.out _ _ _)).mono ?_⟩
      rintro e w' ⟨rfl, rfl⟩
      obtain ⟨fn, tmps, assign, body, hy, hR⟩ := L3.out pre rest w' _ hle HJ.out HB.out
      gi_wp2
      refine hR.mono ?_
      rintro e W2 ⟨hb2, (⟨rfl, hj2⟩ | ⟨rfl, hj2⟩)⟩
      · have Q : Hid (∃ ys : List ByteArray, ys.map bs = splits (bs s) ∧ J ys W2) := ⟨pre ++ [rest], by rw [← HS.out, splits_ib_no (l := bs rest) HX.out]; simp, hj2⟩
        clear hb2 hj2
        gi_wp2
        go_end0
        exact ⟨⟨_, rfl⟩, .inl Q.out⟩
      · have Q : Hid (∃ (pre : List ByteArray) (x : ByteArray) (rest : List (List UInt8)), splits (bs s) = pre.map bs ++ bs x :: rest ∧ Jx (pre ++ [x]) W2) := ⟨pre, rest, [], by rw [← HS.out, splits_ib_no (l := bs rest) HX.out], hj2⟩
        clear hb2 hj2
        gi_wp2
        go_end0
        exact ⟨⟨_, rfl⟩, .inr Q.out⟩
    · obtain ⟨k, hk⟩ : ∃ k : Nat, Lib.indexByte rest.data.toList 46 = (k : Int) := by
        have := Lib.indexByte_ge rest.data.toList 46
        exact Int.eq_ofNat_of_zero_le (by omega)
      obtain ⟨g1, g2, g3⟩ := ib_at hk
      have hl : rest.data.toList.length = rest.size := by simp
      rw [hl] at g1
      have e1 : decide ((k : Int) < 0) = false := by simp
      have e2 : IntKind.i64.wrap ((k : Int) + 0) = (k : Int) := by rw [Int.add_zero]; exact IntWalk.i64_in _ (by omega)
      have e3 : IntKind.i64.wrap ((k : Int) + 1) = (k : Int) + 1 := IntWalk.i64_in _ (by omega)
      have HX := Lib.hid hk
      clear hx hk g2 g3 hl
      gi_wp2_with fail
      refine ⟨trivial, (callsIn_wide.2 (L4.out _ _ _)).mono ?_⟩
      rintro e w' ⟨rfl, rfl⟩
      rw [HX.out]
      obtain ⟨fn, tmps, assign, body, hy, hR⟩ := L3.out pre (rest.extract 0 k) w' _ (by simp; omega) HJ.out HB.out
      gi_wp2
      refine hR.mono ?_
      rintro e W2 ⟨hb2, (⟨rfl, hj2⟩ | ⟨rfl, hj2⟩)⟩
      · have d1 := (L1.out _ _ hj2).1.cell
        have d3 := hb2.cell
        have d4 := hb2.frozen
        have Q1 := Lib.hid (L2.out _ _ (.string (rest.extract (k + 1) rest.size)) hj2)
        have Q2 := Lib.hid (hb2.set (.string (rest.extract (k + 1) rest.size)))
        have e5 : (0 : Int) ≤ (k : Int) + 1 := by omega
        have e6 : (k : Int) + 1 ≤ (rest.size : Int) := by omega
        have e7 : ((k : Int) + 1).toNat = k + 1 := by omega
        clear hb2 hj2
        gi_wp2
        go_roundw
        case rel => exact ⟨pre ++ [rest.extract 0 k], rest.extract (k + 1) rest.size, Q1.out, Q2.out, by rw [← HS.out, splits_ib_at (l := bs rest) HX.out]; simp [bs_tail, bs_head], by simp; omega⟩
        case measure => rw [strAt_of Q2.out, strAt_of HB.out]; simp; omega
      · have Q : Hid (∃ (pre : List ByteArray) (x : ByteArray) (rest : List (List UInt8)), splits (bs s) = pre.map bs ++ bs x :: rest ∧ Jx (pre ++ [x]) W2) := ⟨pre, rest.extract 0 k, splits (bs (rest.extract (k + 1) rest.size)), by rw [← HS.out, splits_ib_at (l := bs rest) HX.out]; simp [bs_tail, bs_head], hj2⟩
        clear hb2 hj2
        gi_wp2
        refine bodyPost_ret (results_none rfl _ _ _) rfl ?_
        exact ⟨⟨_, rfl⟩, .inr Q.out⟩

end Go.Proofs.YtbjbioiggjhknaaDoor
