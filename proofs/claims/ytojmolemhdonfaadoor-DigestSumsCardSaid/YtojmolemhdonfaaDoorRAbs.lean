/-
  The reference's way of taking in a string, block by block, is the code's, byte by byte. Plain functions alone; no statement of the seat is proved here.
-/
import Derived.Test.YtojmolemhdonfaaDoorText
namespace Go.Proofs.YtojmolemhdonfaaDoor
open Go.RowKit Kec

/-- The bytes of a string, then 6, then zeros. -/
def p0 (l : List UInt8) (i : Nat) : Nat := if i < l.length then (l.getD i 0).toNat else if i = l.length then 6 else 0
/-- How many bytes the padded string has. -/
def padLen (l : List UInt8) : Nat := 136 * (l.length / 136 + 1)
/-- The padded string's bytes. -/
def pq (l : List UInt8) (i : Nat) : Nat := if i = padLen l - 1 then p0 l i ||| 128 else p0 l i
/-- The first k bytes of a block exclusive-ored into a state. -/
def flips (f : Nat → W) (q : Nat → Nat) : Nat → Nat → W
  | 0 => f
  | k + 1 => flipS (flips f q k) k (q k)
/-- The state behind m blocks. -/
def stR (q : Nat → Nat) : Nat → Nat → W
  | 0 => fun _ => 0
  | m + 1 => perm (flips (stR q m) (fun j => q (136 * m + j)) 136)

theorem flips_congr {f : Nat → W} {q r : Nat → Nat} : ∀ k, (∀ j, j < k → q j = r j) → flips f q k = flips f r k
  | 0, _ => rfl
  | k + 1, h => by
    show flipS (flips f q k) k (q k) = flipS (flips f r k) k (r k)
    rw [flips_congr k (fun j hj => h j (by omega)), h k (by omega)]
theorem stR_congr {q r : Nat → Nat} : ∀ m, (∀ i, i < 136 * m → q i = r i) → stR q m = stR r m
  | 0, _ => rfl
  | m + 1, h => by
    show perm _ = perm _
    rw [stR_congr m (fun i hi => h i (by omega)), flips_congr 136 (fun j hj => h _ (by omega))]
theorem flip_zero (f : Nat → W) (k : Nat) : flipS f k 0 = f := by
  funext j
  unfold flipS upd
  by_cases e : j = k / 8
  · rw [if_pos e, e]
    have : bw 0 = 0#64 := rfl
    rw [this]
    simp
  · rw [if_neg e]
theorem flips_zeros {f : Nat → W} {q : Nat → Nat} (a : Nat) : ∀ k, (∀ j, a ≤ j → j < a + k → q j = 0) → flips f q (a + k) = flips f q a
  | 0, _ => rfl
  | k + 1, h => by
    show flipS (flips f q (a + k)) (a + k) (q (a + k)) = _
    rw [h (a + k) (by omega) (by omega), flip_zero, flips_zeros a k (fun j h1 h2 => h j h1 (by omega))]

theorem absorb_take_succ (s : (Nat → W) × Nat) (l : List UInt8) {i : Nat} (h : i < l.length) : absorb s (l.take (i + 1)) = takeS (absorb s (l.take i)) (l.getD i 0).toNat := by
  rw [List.take_succ_eq_append_getElem h, absorb_snoc, List.getD_eq_getElem?_getD, List.getElem?_eq_getElem h]
  rfl
/-- Behind i bytes of the string. -/
theorem absorb_take (l : List UInt8) : ∀ i, i ≤ l.length → absorb init (l.take i) = (flips (stR (p0 l) (i / 136)) (fun j => p0 l (136 * (i / 136) + j)) (i % 136), i)
  | 0, _ => rfl
  | i + 1, h => by
    rw [absorb_take_succ init l (by omega), absorb_take l i (by omega)]
    have hp : p0 l i = (l.getD i 0).toNat := by unfold p0; rw [if_pos (by omega)]
    have hi : 136 * (i / 136) + i % 136 = i := Nat.div_add_mod i 136
    unfold takeS
    simp only
    by_cases c : (i + 1) % 136 = 0
    · rw [if_pos c, show (i + 1) / 136 = i / 136 + 1 from by omega, c]
      have e : i % 136 = 135 := by omega
      show _ = (perm (flips (stR (p0 l) (i / 136)) (fun j => p0 l (136 * (i / 136) + j)) 136), i + 1)
      rw [show flips (stR (p0 l) (i / 136)) (fun j => p0 l (136 * (i / 136) + j)) 136 = flipS (flips (stR (p0 l) (i / 136)) (fun j => p0 l (136 * (i / 136) + j)) 135) 135 (p0 l (136 * (i / 136) + 135)) from rfl]
      rw [e] at hi ⊢
      rw [hi, hp]
    · rw [if_neg c, show (i + 1) / 136 = i / 136 from by omega, show (i + 1) % 136 = i % 136 + 1 from by omega]
      show _ = (flipS (flips (stR (p0 l) (i / 136)) (fun j => p0 l (136 * (i / 136) + j)) (i % 136)) (i % 136) (p0 l (136 * (i / 136) + i % 136)), i + 1)
      rw [hi, hp]
theorem flip_134 (f : Nat → W) : flipS f 135 134 = flipS (flipS f 135 6) 135 128 := by
  funext j
  unfold flipS upd
  by_cases e : j = 135 / 8
  · rw [if_pos e, if_pos e, if_pos rfl, BitVec.xor_assoc]
    congr 1
  · rw [if_neg e, if_neg e, if_neg e]
/-- The state behind the last block is that of which the code gives the bytes. -/
theorem stR_last (l : List UInt8) : stR (pq l) (l.length / 136 + 1) = lastS (absorb init l) := by
  have h := absorb_take l l.length (Nat.le_refl _)
  rw [List.take_length] at h
  rw [h]
  unfold lastS
  simp only
  show perm _ = perm _
  congr 1
  have hn : 136 * (l.length / 136) + l.length % 136 = l.length := Nat.div_add_mod _ 136
  have hlt : l.length % 136 < 136 := Nat.mod_lt _ (by omega)
  have e1 : stR (pq l) (l.length / 136) = stR (p0 l) (l.length / 136) := stR_congr _ fun i hi => by unfold pq padLen; rw [if_neg (by omega)]
  rw [e1]
  have e2 : flips (stR (p0 l) (l.length / 136)) (fun j => pq l (136 * (l.length / 136) + j)) (l.length % 136) = flips (stR (p0 l) (l.length / 136)) (fun j => p0 l (136 * (l.length / 136) + j)) (l.length % 136) :=
    flips_congr _ fun j hj => by unfold pq padLen; rw [if_neg (by omega)]
  rw [← e2]
  generalize hX : stR (p0 l) (l.length / 136) = X
  generalize hq : (fun j => pq l (136 * (l.length / 136) + j)) = q
  have hqv : ∀ j, q j = pq l (136 * (l.length / 136) + j) := fun j => by rw [← hq]
  have p6 : p0 l l.length = 6 := by unfold p0; rw [if_neg (by omega), if_pos rfl]
  rcases (show l.length % 136 = 135 ∨ l.length % 136 < 135 by omega) with c | c
  · rw [c]
    have : q 135 = 134 := by
      rw [hqv, show 136 * (l.length / 136) + 135 = l.length from by omega]
      unfold pq padLen
      rw [if_pos (by omega), p6]; rfl
    show flipS (flips X q 135) 135 (q 135) = _
    rw [this, flip_134]
  · have h6 : q (l.length % 136) = 6 := by
      rw [hqv, hn]
      unfold pq padLen
      rw [if_neg (by omega), p6]
    have h0 : ∀ j, l.length % 136 + 1 ≤ j → j < l.length % 136 + 1 + (134 - l.length % 136) → q j = 0 := fun j h1 h2 => by
      rw [hqv]
      unfold pq padLen p0
      rw [if_neg (by omega), if_neg (by omega), if_neg (by omega)]
    have h128 : q 135 = 128 := by
      rw [hqv]
      unfold pq padLen p0
      rw [if_pos (by omega), if_neg (by omega), if_neg (by omega)]; rfl
    show flipS (flips X q 135) 135 (q 135) = _
    rw [h128]
    congr 1
    have := flips_zeros (f := X) (l.length % 136 + 1) (134 - l.length % 136) h0
    rw [show l.length % 136 + 1 + (134 - l.length % 136) = 135 from by omega] at this
    rw [this]
    show flipS (flips X q (l.length % 136)) (l.length % 136) (q (l.length % 136)) = _
    rw [h6]
end Go.Proofs.YtojmolemhdonfaaDoor
