/-
  What Parse answers in the code, walked over the program's text. No statement of the seat is proved here.
-/
import Derived.Test.YtojmolemhdonfaaDoorHex
namespace Go.Proofs.YtojmolemhdonfaaDoor
open Go.RowKit Kec

/-- The value of byte j of a text, and whether it is a digit. -/
def tv (s : ByteArray) (j : Nat) : Nat := hv (s.data.toList.getD j 0).toNat
def tok (s : ByteArray) (j : Nat) : Bool := hok (s.data.toList.getD j 0).toNat
def parB (s : ByteArray) (i : Nat) : Nat := tv s (2 * i) * 16 + tv s (2 * i + 1)
def parTo (s : ByteArray) (k : Nat) : Nat → Nat := fun j => if j < k then parB s j else 0
/-- The digest with a text. -/
def parS (s : ByteArray) : ByteArray := strOfNums ((List.range 32).map fun i => (parB s i : Int))
/-- All bytes up to place n are digits. -/
def okTo (s : ByteArray) (n : Nat) : Prop := ∀ j, j < n → tok s j = true
theorem parTo_succ (s : ByteArray) (k j : Nat) : (if j = k then parB s k else parTo s k j) = parTo s (k + 1) j := by
  unfold parTo
  by_cases e : j = k
  · subst e; rw [if_pos rfl, if_pos (by omega)]
  · rw [if_neg e]
    by_cases h : j < k
    · rw [if_pos h, if_pos (by omega)]
    · rw [if_neg h, if_neg (by omega)]
theorem or_nibbles (a b : Nat) (ha : a < 16) (hb : b < 16) : bits BinOp.or IntKind.u8 ((a : Int) * 16) (b : Int) = ((a * 16 + b : Nat) : Int) := by
  have h1 := u8_or_nat (a * 16) b (by omega) (by omega)
  rw [show ((a * 16 : Nat) : Int) = (a : Int) * 16 from by omega] at h1
  rw [h1]
  have h2 : a * 16 ||| b = a * 16 + b := by
    have := Nat.two_pow_add_eq_or_of_lt (i := 4) (b := b) (by omega) a
    rw [show 2 ^ 4 * a = a * 16 from by omega] at this
    exact this.symm
  rw [h2]
theorem convert_par (w : World) (b : Nat) (s : ByteArray) (hB : BBlk w b 32 49 (parTo s 32)) : (convert 47 9 (.slice (some ⟨b, 0, none⟩) 32 32)).run Tryd.prog w = .ok (.string (parS s)) w :=
  run_convert_bytes_arg (P := Tryd.prog) w 47 5 Tryd.underlying47 Tryd.underlying5 b 0 32 32 _ (by simp) (fun i hi => by
    rw [Nat.zero_add, hB.cell hi]
    have : ((List.range 32).map fun i => (parB s i : Int)).getD i 0 = (parB s i : Int) := by simp [List.getD, hi]
    rw [this]
    unfold parTo
    rw [if_pos hi]) 9 Tryd.underlying9

set_option maxHeartbeats 400000 in
theorem parse_size (s : ByteArray) (w : World) (h : s.size ≠ 64) :
    Calls Tryd.prog 17 #[.string s] w fun e w' => e = .returned (.tuple #[.string { data := #[] }, .int .i64 3]) ∧ Below w.heap.size w w' := by
  have h1 : ((s.size : Int) != 64) = true := by simp; omega
  clear h
  go_enter Tryd.func17, Tryd.ntmps17
  go_wp2
  go_ret2
  exact ⟨rfl, Below.refl _ _⟩

set_option maxRecDepth 100000 in
set_option maxHeartbeats 2000000 in
theorem parse_any (s : ByteArray) (w : World) (h : s.size = 64) :
    Calls Tryd.prog 17 #[.string s] w fun e w' => ((okTo s 64 ∧ e = .returned (.tuple #[.string (parS s), .int .i64 0])) ∨ (¬ okTo s 64 ∧ e = .returned (.tuple #[.string { data := #[] }, .int .i64 3]))) ∧ Below w.heap.size w w' := by
  have h1 : ((s.size : Int) != 64) = false := by simp; omega
  have HSZ := Lib.hid h
  have N0 : Hid (Below w.heap.size w (w.alloc (.cells z32 49))) := (Below.refl _ _).alloc (Nat.le_refl _) _
  have B0 : Hid (BBlk (w.alloc (.cells z32 49)) w.heap.size 32 49 (parTo s 0)) := by
    show BBlk _ _ _ _ _
    rw [z32_eq]
    exact BBlk.congr (heap_alloc_new w _) fun j _ => by unfold parTo; rw [if_neg (by omega)]
  clear h
  go_enter Tryd.func17, Tryd.ntmps17
  go_wp2
  go_loopw [13] (fun i wr => ∃ k : Nat, k ≤ 32 ∧ i = .int .i64 k ∧ okTo s (2 * k) ∧ Below w.heap.size w wr ∧ BBlk wr w.heap.size 32 49 (parTo s k)) (fun i _ => 32 - (intOf i).toNat)
  case atStart => exact ⟨0, by omega, rfl, fun j hj => by omega, N0.out, B0.out⟩
  case round =>
    clear N0 B0
    obtain ⟨k, hk, rfl, ho, hb, b0⟩ := hrel
    by_cases hlt : k < 32
    · have hl1 : 2 * k < s.size := by have := HSZ.out; omega
      have hl2 : 2 * k + 1 < s.size := by have := HSZ.out; omega
      have hc1 : ((s[2 * k].toNat : Nat) : Int) < 256 := by have := s[2 * k].toNat_lt; omega
      have hc2 : ((s[2 * k + 1].toNat : Nat) : Int) < 256 := by have := s[2 * k + 1].toNat_lt; omega
      have HO := Lib.hid ho
      have v1 : hv s[2 * k].toNat = tv s (2 * k) := by unfold tv; rw [byte_getD s (2 * k) hl1]
      have v2 : hv s[2 * k + 1].toNat = tv s (2 * k + 1) := by unfold tv; rw [byte_getD s (2 * k + 1) hl2]
      have o1 : hok s[2 * k].toNat = tok s (2 * k) := by unfold tok; rw [byte_getD s (2 * k) hl1]
      have o2 : hok s[2 * k + 1].toNat = tok s (2 * k + 1) := by unfold tok; rw [byte_getD s (2 * k + 1) hl2]
      have C1 := Lib.hid (fun w => hexValue_any s[2 * k].toNat w hc1)
      have C2 := Lib.hid (fun w => hexValue_any s[2 * k + 1].toNat w hc2)
      have y1 := b0.cell (i := k) hlt
      have y2 := b0.frozen k
      have HB := Lib.hid hb; have HB0 := Lib.hid b0
      have V := Lib.hid (And.intro v1 v2)
      clear ho hb b0 v1 v2
      cases t1 : tok s (2 * k)
      · have O1 := Lib.hid (o1.trans t1)
        have HN : Hid (¬ okTo s 64) := by
          show ¬ okTo s 64
          intro hh
          have := hh (2 * k) (by omega)
          rw [t1] at this; cases this
        clear o1 o2 t1
        go_wp2_with fail
        refine (C1.out wr).mono ?_
        rw [O1.out]
        rintro e w' ⟨rfl, rfl⟩
        go_wp2_with fail
        refine (C2.out wr).mono ?_
        rintro e w' ⟨rfl, rfl⟩
        go_wp2
        go_ret2
        exact ⟨Or.inr ⟨HN.out, rfl⟩, HB.out⟩
      cases t2 : tok s (2 * k + 1)
      · have O1 := Lib.hid (o1.trans t1)
        have O2 := Lib.hid (o2.trans t2)
        have HN : Hid (¬ okTo s 64) := by
          show ¬ okTo s 64
          intro hh
          have := hh (2 * k + 1) (by omega)
          rw [t2] at this; cases this
        clear o1 o2 t1 t2
        go_wp2_with fail
        refine (C1.out wr).mono ?_
        rw [O1.out]
        rintro e w' ⟨rfl, rfl⟩
        go_wp2_with fail
        refine (C2.out wr).mono ?_
        rw [O2.out]
        rintro e w' ⟨rfl, rfl⟩
        go_wp2
        go_ret2
        exact ⟨Or.inr ⟨HN.out, rfl⟩, HB.out⟩
      · have O1 := Lib.hid (o1.trans t1)
        have O2 := Lib.hid (o2.trans t2)
        have HN : Hid (okTo s (2 * (k + 1))) := by
          show okTo s (2 * (k + 1))
          intro j hj
          rcases (show j < 2 * k ∨ j = 2 * k ∨ j = 2 * k + 1 by omega) with e | e | e
          · exact HO.out j e
          · rw [e]; exact t1
          · rw [e]; exact t2
        have q1 := hv_lt s[2 * k].toNat
        have q2 := hv_lt s[2 * k + 1].toNat
        have HQ := Lib.hid (or_nibbles _ _ q1 q2)
        clear o1 o2 t1 t2
        go_wp2_with fail
        refine (C1.out wr).mono ?_
        rw [O1.out]
        rintro e w' ⟨rfl, rfl⟩
        go_wp2_with fail
        refine (C2.out wr).mono ?_
        rw [O2.out]
        rintro e w' ⟨rfl, rfl⟩
        go_wp2
        rw [HQ.out, V.out.1, V.out.2]
        go_roundw
        case rel => exact ⟨k + 1, by omega, by go_num, HN.out, HB.out.setCell (p := ⟨w.heap.size, k, none⟩) (Nat.le_refl _) _, (HB0.out.store hlt (parB s k)).congr fun j _ => parTo_succ s k j⟩
        case measure => simp [intOf]; omega
    · obtain rfl : k = 32 := by omega
      clear hlt
      have hcv := convert_par wr w.heap.size s b0
      have HO := Lib.hid ho
      have HB7 := Lib.hid hb
      clear hb b0 ho
      go_wp2
      go_ret2
      exact ⟨Or.inl ⟨HO.out, rfl⟩, HB7.out⟩
end Go.Proofs.YtojmolemhdonfaaDoor
