/-
  What Hex and Parse answer in the code, walked over the program's text. No statement of the seat is proved here.
-/
import Derived.Test.YtojmolemhdonfaaDoorSum
import Derived.Deep.RegionLaw
import Derived.Deep.AppendLies
namespace Go.Proofs.YtojmolemhdonfaaDoor
open Go.RowKit Kec

/-- The digit of a number below 16, as a byte. -/
def hexc (n : Nat) : Nat := if n < 10 then 48 + n else 87 + n
def hexdigits : ByteArray := { data := #[48, 49, 50, 51, 52, 53, 54, 55, 56, 57, 97, 98, 99, 100, 101, 102] }
theorem hex_index (n : Nat) (h : n < 16) (w : World) : (Instr.index 9 (.string hexdigits) (.int .u8 (n : Nat))).run Tryd.prog w = .ok (.int .u8 (hexc n : Nat)) w := by
  have : n = 0 ∨ n = 1 ∨ n = 2 ∨ n = 3 ∨ n = 4 ∨ n = 5 ∨ n = 6 ∨ n = 7 ∨ n = 8 ∨ n = 9 ∨ n = 10 ∨ n = 11 ∨ n = 12 ∨ n = 13 ∨ n = 14 ∨ n = 15 := by omega
  rcases this with h | h | h | h | h | h | h | h | h | h | h | h | h | h | h | h <;> subst h <;> (show Sem.run _ _ _ = _) <;> kernel_rfl
theorem hex_hi (c : Nat) (h : c < 256) (w : World) : (Instr.index 9 (.string hexdigits) (.int .u8 ((c : Int) / 16))).run Tryd.prog w = .ok (.int .u8 (hexc (c / 16) : Nat)) w := hex_index (c / 16) (by omega) w
theorem hex_lo (c : Nat) (w : World) : (Instr.index 9 (.string hexdigits) (.int .u8 ((c : Int) % 16))).run Tryd.prog w = .ok (.int .u8 (hexc (c % 16) : Nat)) w := hex_index (c % 16) (by omega) w
/-- Byte number j of the text of a digest. -/
def hexB (s : ByteArray) (j : Nat) : Nat := hexc (if j % 2 = 0 then (s.data.toList.getD (j / 2) 0).toNat / 16 else (s.data.toList.getD (j / 2) 0).toNat % 16)
def hexTo (s : ByteArray) (k : Nat) : Nat → Nat := fun j => if j < 2 * k then hexB s j else 0
theorem byte_getD (s : ByteArray) (k : Nat) (h : k < s.size) : s.data.toList.getD k 0 = s[k] := by
  have hk : k < s.data.size := h
  rw [List.getD_eq_getElem?_getD, Array.getElem?_toList, Array.getElem?_eq_getElem hk]
  rfl
theorem hexTo_zero (s : ByteArray) (j : Nat) : hexTo s 0 j = 0 := if_neg (by omega)
theorem hexTo_succ (s : ByteArray) (k : Nat) (hk : k < s.size) (j : Nat) :
    (if j = 2 * k + 1 then hexc (s[k].toNat % 16) else if j = 2 * k then hexc (s[k].toNat / 16) else hexTo s k j) = hexTo s (k + 1) j := by
  have hg := byte_getD s k hk
  unfold hexTo
  by_cases e : j = 2 * k + 1
  · subst e
    rw [if_pos rfl, if_pos (by omega)]
    unfold hexB
    rw [if_neg (by omega), show (2 * k + 1) / 2 = k from by omega, hg]
  · rw [if_neg e]
    by_cases e2 : j = 2 * k
    · subst e2
      rw [if_pos rfl, if_pos (by omega)]
      unfold hexB
      rw [if_pos (by omega), show 2 * k / 2 = k from by omega, hg]
    · rw [if_neg e2]
      by_cases h : j < 2 * k
      · rw [if_pos h, if_pos (by omega)]
      · rw [if_neg h, if_neg (by omega)]
abbrev z64 : Array Value := #[.int .u8 0, .int .u8 0, .int .u8 0, .int .u8 0, .int .u8 0, .int .u8 0, .int .u8 0, .int .u8 0, .int .u8 0, .int .u8 0, .int .u8 0, .int .u8 0, .int .u8 0, .int .u8 0, .int .u8 0, .int .u8 0, .int .u8 0, .int .u8 0, .int .u8 0, .int .u8 0, .int .u8 0, .int .u8 0, .int .u8 0, .int .u8 0, .int .u8 0, .int .u8 0, .int .u8 0, .int .u8 0, .int .u8 0, .int .u8 0, .int .u8 0, .int .u8 0, .int .u8 0, .int .u8 0, .int .u8 0, .int .u8 0, .int .u8 0, .int .u8 0, .int .u8 0, .int .u8 0, .int .u8 0, .int .u8 0, .int .u8 0, .int .u8 0, .int .u8 0, .int .u8 0, .int .u8 0, .int .u8 0, .int .u8 0, .int .u8 0, .int .u8 0, .int .u8 0, .int .u8 0, .int .u8 0, .int .u8 0, .int .u8 0, .int .u8 0, .int .u8 0, .int .u8 0, .int .u8 0, .int .u8 0, .int .u8 0, .int .u8 0, .int .u8 0]
theorem z64_eq : z64 = brow 64 (fun _ => 0) := rfl
theorem and15 (c : Nat) (h : c < 256) : bits BinOp.and IntKind.u8 (c : Int) 15 = (c : Int) % 16 := by
  have := u8_and_nat c 15 h (by omega)
  rw [show ((15 : Nat) : Int) = 15 from rfl] at this
  rw [this, show (15 : Nat) = 2 ^ 4 - 1 from rfl, Nat.and_two_pow_sub_one_eq_mod]
  omega
theorem info5 : (Tryd.prog.info? 5).map (fun i => (i.zero, i.size, i.bytes)) = some (some (.int .u8 0), 1, 1) := by kernel_rfl

/-- The text of a digest. -/
def hexS (s : ByteArray) : ByteArray := strOfNums ((List.range 64).map fun i => (hexB s i : Int))
theorem convert_hex (w : World) (b : Nat) (s : ByteArray) (hB : BBlk w b 64 5 (hexTo s 32)) : (convert 47 9 (.slice (some ⟨b, 0, none⟩) 64 64)).run Tryd.prog w = .ok (.string (hexS s)) w :=
  run_convert_bytes_arg (P := Tryd.prog) w 47 5 Tryd.underlying47 Tryd.underlying5 b 0 64 64 _ (by simp) (fun i hi => by
    rw [Nat.zero_add, hB.cell hi]
    have : ((List.range 64).map fun i => (hexB s i : Int)).getD i 0 = (hexB s i : Int) := by simp [List.getD, hi]
    rw [this]
    unfold hexTo
    rw [if_pos (by omega)]) 9 Tryd.underlying9
set_option maxRecDepth 100000 in
set_option maxHeartbeats 1000000 in
theorem hex_yes (s : ByteArray) (w : World) (h : s.size = 32) :
    Calls Tryd.prog 15 #[.string s] w fun e w' => e = .returned (.tuple #[.string (hexS s), .int .i64 0]) ∧ Below w.heap.size w w' := by
  have h1 : ((s.size : Int) != 32) = false := by simp; omega
  have hmk : ∀ w, (Instr.makeSlice 47 (.int .i64 0) (.int .i64 64)).run Tryd.prog w = .ok (.slice (some ⟨w.heap.size, 0, none⟩) 0 64) (w.alloc (.cells z64 5)) := fun _ => by kernel_rfl
  obtain ⟨i5, hi5, hi5a, hi5b, hi5c⟩ := info_parts info5
  have HI5 := Lib.hid (And.intro hi5 hi5b)
  have HSZ := Lib.hid h
  have N0 : Hid (Below w.heap.size w (w.alloc (.cells z64 5))) := (Below.refl _ _).alloc (Nat.le_refl _) _
  have B0 : Hid (BBlk (w.alloc (.cells z64 5)) w.heap.size 64 5 (hexTo s 0)) := by
    show BBlk _ _ _ _ _
    rw [z64_eq]
    exact BBlk.congr (heap_alloc_new w _) fun j _ => (hexTo_zero s j).symm
  clear h hi5 hi5a hi5b hi5c
  go_enter Tryd.func15, Tryd.ntmps15
  go_wp2
  go_loopw [4, 10] (fun v i wr => ∃ k : Nat, k ≤ 32 ∧ i = .int .i64 k ∧ v = .slice (some ⟨w.heap.size, 0, none⟩) (2 * k) 64 ∧ Below w.heap.size w wr ∧ w.heap.size < wr.heap.size ∧ BBlk wr w.heap.size 64 5 (hexTo s k)) (fun _ i _ => 32 - (intOf i).toNat)
  case atStart => exact ⟨0, by omega, rfl, rfl, N0.out, by simp, B0.out⟩
  case round =>
    clear N0 B0
    obtain ⟨k, hk, rfl, rfl, hb, hz, b0⟩ := hrel
    by_cases hlt : k < 32
    · have hlt2 : k < s.size := by have := HSZ.out; omega
      have hc : s[k].toNat < 256 := s[k].toNat_lt
      have x1 := hex_hi s[k].toNat hc
      have x2 := hex_lo s[k].toNat
      have x3 := and15 s[k].toNat hc
      unfold hexdigits at x1 x2
      have y0 : 2 * k ≤ 62 := by omega
      have y1 := b0.cell (i := 2 * k) (by omega)
      have y2 := b0.cell (i := 2 * k + 1) (by omega)
      have y3 := b0.frozen (2 * k)
      have y4 := b0.frozen (2 * k + 1)
      go_wp2
      go_region
      go_wp2
      go_roundw
      case rel =>
        have e1 := (hb.setCell (p := ⟨w.heap.size, 2 * k, none⟩) (Nat.le_refl _) (.int .u8 (hexc (s[k].toNat / 16) : Nat))).setCell (p := ⟨w.heap.size, 2 * k + 1, none⟩) (Nat.le_refl _) (.int .u8 (hexc (s[k].toNat % 16) : Nat))
        have e2 := ((b0.store (i := 2 * k) (by omega) (hexc (s[k].toNat / 16))).store (i := 2 * k + 1) (by omega) (hexc (s[k].toNat % 16))).congr fun j _ => hexTo_succ s k hlt2 j
        refine ⟨k + 1, by omega, by go_num, rfl, (e1.alloc (by simp; omega) _).drew, by simp; omega, ?_⟩
        exact (show _ = _ from Below.heap_alloc _ _ _ e2.lt).trans e2
      case measure => simp [intOf]; omega
    · obtain rfl : k = 32 := by omega
      clear hlt
      have hcv := convert_hex wr w.heap.size s b0
      have HB7 := Lib.hid hb
      clear hb b0
      go_wp2
      go_ret2
      exact ⟨rfl, HB7.out⟩

set_option maxHeartbeats 400000 in
theorem hex_no (s : ByteArray) (w : World) (h : s.size ≠ 32) :
    Calls Tryd.prog 15 #[.string s] w fun e w' => e = .returned (.tuple #[.string { data := #[] }, .int .i64 1]) ∧ w = w' := by
  have h1 : ((s.size : Int) != 32) = true := by simp; omega
  clear h
  go_enter Tryd.func15, Tryd.ntmps15
  go_wp2
  go_ret2
  exact ⟨rfl, rfl⟩

/-- The value of a digit, and whether it is one. -/
def hv (c : Nat) : Nat := if 48 ≤ c ∧ c ≤ 57 then c - 48 else if 97 ≤ c ∧ c ≤ 102 then c - 87 else 0
def hok (c : Nat) : Bool := decide ((48 ≤ c ∧ c ≤ 57) ∨ (97 ≤ c ∧ c ≤ 102))
theorem hv_lt (c : Nat) : hv c < 16 := by unfold hv; split <;> (try split) <;> omega
theorem retBB {a b : Int} {c d : Bool} (h : a = b) (h' : c = d) : Ending.returned (.tuple #[.int .u8 a, .bool c]) = .returned (.tuple #[.int .u8 b, .bool d]) := by rw [h, h']
set_option maxRecDepth 100000 in
set_option maxHeartbeats 1000000 in
theorem hexValue_any (c : Nat) (w : World) (h : (c : Int) < 256) :
    Calls Tryd.prog 29 #[.int .u8 c] w fun e w' => e = .returned (.tuple #[.int .u8 (hv c : Nat), .bool (hok c)]) ∧ w = w' := by
  by_cases a : 48 ≤ c ∧ c ≤ 57
  · have e1 : hv c = c - 48 := if_pos a
    have e2 : hok c = true := decide_eq_true (Or.inl a)
    have E := Lib.hid (And.intro e1 e2)
    have a1 : (48 : Int) ≤ (c : Int) := by omega
    have a2 : (c : Int) ≤ 57 := by omega
    clear e1 e2
    go_enter Tryd.func29, Tryd.ntmps29
    go_wp2
    go_ret2
    exact ⟨retBB (by rw [E.out.1]; omega) E.out.2.symm, rfl⟩
  by_cases b : 97 ≤ c ∧ c ≤ 102
  · have e1 : hv c = c - 87 := by unfold hv; rw [if_neg a, if_pos b]
    have e2 : hok c = true := decide_eq_true (Or.inr b)
    have E := Lib.hid (And.intro e1 e2)
    have a1 : (97 : Int) ≤ (c : Int) := by omega
    have a2 : (c : Int) ≤ 102 := by omega
    clear e1 e2 a
    go_enter Tryd.func29, Tryd.ntmps29
    go_wp2
    go_ret2
    exact ⟨retBB (by rw [E.out.1]; omega) E.out.2.symm, rfl⟩
  have e1 : hv c = 0 := by unfold hv; rw [if_neg a, if_neg b]
  have e2 : hok c = false := decide_eq_false (by omega)
  have E := Lib.hid (And.intro e1 e2)
  clear e1 e2
  by_cases k1 : (c : Int) < 48
  · have k2 : (c : Int) < 97 := by omega
    clear a b
    go_enter Tryd.func29, Tryd.ntmps29
    go_wp2
    go_ret2
    exact ⟨retBB (by rw [E.out.1]; rfl) E.out.2.symm, rfl⟩
  · have k2 : (48 : Int) ≤ (c : Int) := by omega
    have k3 : (57 : Int) < (c : Int) := by omega
    by_cases k4 : (c : Int) < 97
    · clear a b
      go_enter Tryd.func29, Tryd.ntmps29
      go_wp2
      go_ret2
      exact ⟨retBB (by rw [E.out.1]; rfl) E.out.2.symm, rfl⟩
    · have k5 : (97 : Int) ≤ (c : Int) := by omega
      have k6 : (102 : Int) < (c : Int) := by omega
      clear a b
      go_enter Tryd.func29, Tryd.ntmps29
      go_wp2
      go_ret2
      exact ⟨retBB (by rw [E.out.1]; rfl) E.out.2.symm, rfl⟩
end Go.Proofs.YtojmolemhdonfaaDoor
