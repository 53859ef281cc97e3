/-
  What the reference's Hex and Parse answer, walked over the program's text. No statement of the seat is proved here.
-/
import Derived.Test.YtojmolemhdonfaaDoorText
import Derived.BigRegion
namespace Go.Proofs.YtojmolemhdonfaaDoor
open Go.RowKit Kec
def hexP (s : ByteArray) (k : Nat) : ByteArray := strOfNums ((List.range (2 * k)).map fun i => (hexB s i : Int))
theorem strOfNums_append (a b : List Int) : strOfNums (a ++ b) = strOfNums a ++ strOfNums b := by
  apply ByteArray.ext
  apply Array.toList_inj.1
  simp [strOfNums]
theorem hex_ext (n : Nat) (h : n < 16) : hexdigits.extract n (n + 1) = strOfNums [(hexc n : Int)] := by
  have : n = 0 ∨ n = 1 ∨ n = 2 ∨ n = 3 ∨ n = 4 ∨ n = 5 ∨ n = 6 ∨ n = 7 ∨ n = 8 ∨ n = 9 ∨ n = 10 ∨ n = 11 ∨ n = 12 ∨ n = 13 ∨ n = 14 ∨ n = 15 := by omega
  rcases this with h | h | h | h | h | h | h | h | h | h | h | h | h | h | h | h <;> subst h <;> decide
theorem hexP_succ (s : ByteArray) (k : Nat) (hk : k < s.size) :
    hexP s k ++ hexdigits.extract (s[k].toNat / 16) (s[k].toNat / 16 + 1) ++ hexdigits.extract (s[k].toNat % 16) (s[k].toNat % 16 + 1) = hexP s (k + 1) := by
  have hc := s[k].toNat_lt
  have hg := byte_getD s k hk
  rw [hex_ext _ (by omega), hex_ext _ (by omega)]
  unfold hexP
  rw [← strOfNums_append, ← strOfNums_append, show 2 * (k + 1) = 2 * k + 1 + 1 from by omega, List.range_succ, List.range_succ, List.map_append, List.map_append]
  have e1 : hexB s (2 * k) = hexc (s[k].toNat / 16) := by unfold hexB; rw [if_pos (by omega), show 2 * k / 2 = k from by omega, hg]
  have e2 : hexB s (2 * k + 1) = hexc (s[k].toNat % 16) := by unfold hexB; rw [if_neg (by omega), show (2 * k + 1) / 2 = k from by omega, hg]
  simp only [List.map_cons, List.map_nil, e1, e2]
set_option maxRecDepth 100000 in
set_option maxHeartbeats 1000000 in
theorem rhex_yes (s : ByteArray) (w : World) (h : s.size = 32) :
    Calls Tryd.prog 16 #[.string s] w fun e w' => e = .returned (.tuple #[.string (hexS s), .int .i64 0]) ∧ Below w.heap.size w w' := by
  have h1 : ((s.size : Int) != 32) = false := by simp; omega
  have HSZ := Lib.hid h
  clear h
  go_enter Tryd.func16, Tryd.ntmps16
  go_wp2
  go_loopw [4, 5] (fun v i wr => ∃ k : Nat, k ≤ 32 ∧ i = .int .i64 k ∧ v = .string (hexP s k) ∧ Below w.heap.size w wr) (fun _ i _ => 32 - (intOf i).toNat)
  case atStart => exact ⟨0, by omega, rfl, rfl, Below.refl _ _⟩
  case round =>
    obtain ⟨k, hk, rfl, rfl, hb⟩ := hrel
    by_cases hlt : k < 32
    · have hlt2 : k < s.size := by have := HSZ.out; omega
      have hc : s[k].toNat < 256 := s[k].toNat_lt
      have z : (hexP s k).size = 2 * k := nums_size _ _
      go_wp2
      have HS := Lib.hid (hexP_succ s k hlt2)
      go_region
      go_wp2
      go_region
      go_wp2
      go_roundw
      case rel => exact ⟨k + 1, by omega, by go_num, congrArg Value.string HS.out, hb.drew.drew⟩
      case measure => simp [intOf]; omega
    · obtain rfl : k = 32 := by omega
      clear hlt
      have hn : ¬ ((32 : Int) < (s.size : Int)) := by have := HSZ.out; omega
      rw [show hexP s 32 = hexS s from rfl]
      go_wp2
      go_ret2
      exact ⟨rfl, hb⟩
set_option maxHeartbeats 400000 in
theorem rhex_no (s : ByteArray) (w : World) (h : s.size ≠ 32) :
    Calls Tryd.prog 16 #[.string s] w fun e w' => e = .returned (.tuple #[.string { data := #[] }, .int .i64 1]) ∧ Below w.heap.size w w' := by
  have h1 : ((s.size : Int) != 32) = true := by simp; omega
  clear h
  go_enter Tryd.func16, Tryd.ntmps16
  go_wp2
  go_ret2
  exact ⟨rfl, Below.refl _ _⟩
end Go.Proofs.YtojmolemhdonfaaDoor
