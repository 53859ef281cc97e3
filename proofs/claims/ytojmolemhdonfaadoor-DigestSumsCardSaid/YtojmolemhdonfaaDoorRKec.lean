/-
  The reference's round, in plain functions, and the blocks it works in. No statement of the seat is proved here.
-/
import Derived.Test.YtojmolemhdonfaaDoorPerm
import Derived.Deep.RegionHeld3
import Derived.Deep.CutRange
namespace Go.Proofs.YtojmolemhdonfaaDoor
open Go.RowKit Kec

/-- The columns' sums behind the first k words. -/
def sumsTo (f : Nat → W) : Nat → Nat → W
  | 0 => fun _ => 0
  | k + 1 => upd (sumsTo f k) (k % 5) (sumsTo f k (k % 5) ^^^ f k)
theorem sums_all (f : Nat → W) (i : Nat) (h : i < 5) : sumsTo f 25 i = col f i := by
  have : i = 0 ∨ i = 1 ∨ i = 2 ∨ i = 3 ∨ i = 4 := by omega
  rcases this with h | h | h | h | h <;> subst h <;> simp [sumsTo, upd, col]
/-- Step 1, the first k words. -/
def thI (f : Nat → W) (k : Nat) : Nat → W := fun i => if i < k then theta f i else f i
theorem thI_zero (f : Nat → W) (i : Nat) : thI f 0 i = f i := if_neg (by omega)
theorem thI_at (f : Nat → W) (k : Nat) : thI f k k = f k := if_neg (by omega)
theorem thI_succ (f : Nat → W) (k : Nat) (i : Nat) : upd (thI f k) k (f k ^^^ col f ((k + 4) % 5) ^^^ rotl (col f ((k + 1) % 5)) 1) i = thI f (k + 1) i := by
  by_cases e : i = k
  · subst e; rw [upd_same]; unfold thI
    rw [if_pos (by omega)]
    unfold theta dd
    rw [show (i % 5 + 4) % 5 = (i + 4) % 5 from by omega, show (i % 5 + 1) % 5 = (i + 1) % 5 from by omega, BitVec.xor_assoc]
  · rw [upd_other _ _ e]; unfold thI
    by_cases h : i < k
    · rw [if_pos h, if_pos (by omega)]
    · rw [if_neg h, if_neg (by omega)]
theorem thI_all (f : Nat → W) (i : Nat) (h : i < 25) : thI f 25 i = theta f i := if_pos h
/-- Step 2, as far as column x and row y of its source. -/
def rhoX (f : Nat → W) (x y : Nat) : Nat → W := fun j => if src j % 5 < x ∨ (src j % 5 = x ∧ src j / 5 < y) then rho f j else 0
theorem rhoX_zero (f : Nat → W) (i : Nat) : rhoX f 0 0 i = 0 := if_neg (by omega)
theorem src_lt (j : Nat) (_ : j < 25) : src j / 5 < 5 := by unfold src; omega
theorem rhoX_col (f : Nat → W) (x : Nat) (j : Nat) (hj : j < 25) : rhoX f x 5 j = rhoX f (x + 1) 0 j := by
  have := src_lt j hj
  unfold rhoX
  by_cases h : src j % 5 < x ∨ src j % 5 = x
  · rw [if_pos (by omega), if_pos (by omega)]
  · rw [if_neg (by omega), if_neg (by omega)]
theorem rhoX_succ (f : Nat → W) {x y : Nat} (hx : x < 5) (hy : y < 5) (j : Nat) (hj : j < 25) :
    upd (rhoX f x y) (dst x y) (rotl (f (x + 5 * y)) (rot (x + 5 * y))) j = rhoX f x (y + 1) j := by
  have sd := src_dst hx hy
  by_cases e : j = dst x y
  · subst e; rw [upd_same]; unfold rhoX
    rw [if_pos (by rw [sd]; omega)]
    unfold rho; rw [sd]
  · rw [upd_other _ _ e]
    have ds := dst_src hj
    have hne : ¬ (src j / 5 = y ∧ src j % 5 = x) := fun h => e (by rw [← ds, h.1, h.2])
    unfold rhoX
    by_cases h : src j % 5 < x ∨ (src j % 5 = x ∧ src j / 5 < y)
    · rw [if_pos h, if_pos (by omega)]
    · rw [if_neg h, if_neg (by omega)]
theorem rhoX_all (f : Nat → W) (j : Nat) : rhoX f 5 0 j = rho f j := by
  unfold rhoX; rw [if_pos (by omega)]
/-- Step 3, as far as column x and row y. -/
def chiX (g f : Nat → W) (x y : Nat) : Nat → W := fun i => if i % 5 < x ∨ (i % 5 = x ∧ i / 5 < y) then chi f i else g i
theorem chiX_zero (g f : Nat → W) (i : Nat) : chiX g f 0 0 i = g i := if_neg (by omega)
theorem chiX_col (g f : Nat → W) (x : Nat) (i : Nat) (hi : i < 25) : chiX g f x 5 i = chiX g f (x + 1) 0 i := by
  unfold chiX
  by_cases h : i % 5 < x ∨ i % 5 = x
  · rw [if_pos (by omega), if_pos (by omega)]
  · rw [if_neg (by omega), if_neg (by omega)]
theorem chiX_succ (g f : Nat → W) {x y : Nat} (hx : x < 5) (i : Nat) :
    upd (chiX g f x y) (x + 5 * y) (f (x + 5 * y) ^^^ (~~~ (f ((x + 1) % 5 + 5 * y)) &&& f ((x + 2) % 5 + 5 * y))) i = chiX g f x (y + 1) i := by
  by_cases e : i = x + 5 * y
  · subst e; rw [upd_same]; unfold chiX
    rw [if_pos (by omega)]
    unfold chi
    rw [show (x + 5 * y) % 5 = x from by omega, show (x + 5 * y) / 5 = y from by omega]
  · rw [upd_other _ _ e]; unfold chiX
    by_cases h : i % 5 < x ∨ (i % 5 = x ∧ i / 5 < y)
    · rw [if_pos h, if_pos (by omega)]
    · rw [if_neg h, if_neg (by omega)]
theorem chiX_all (g f : Nat → W) (i : Nat) : chiX g f 5 0 i = chi f i := by unfold chiX; rw [if_pos (by omega)]

/-- The rotations as a row of cells. -/
def rotV : Array Value := (rots.map fun (n : Nat) => Value.int .i64 n).toArray
theorem rotV_size : rotV.size = 25 := by simp [rotV, rots]
theorem rotV_get {i : Nat} (h : i < 25) : rotV[i]? = some (.int .i64 (rot i : Nat)) := by
  have hr : i < rots.length := h
  unfold rotV rot
  simp [List.getD, hr]
def RBlk (w : World) (b : Nat) : Prop := w.heap[b]? = some (.cells rotV 44 (0, 0))
theorem RBlk.cell {w : World} {b : Nat} (h : RBlk w b) {i : Nat} (hi : i < 25) : w.cell? ⟨b, i, none⟩ = some (.int .i64 (rot i : Nat)) := by
  rw [cell_of_row w b i _ _ (0, 0) h, rotV_get hi]
theorem RBlk.other {w : World} {b : Nat} (h : RBlk w b) {a : Addr} (hb : b ≠ a.block) (v : Value) : RBlk (w.setCell a v) b := by
  unfold RBlk
  rw [heap_setCell_other w a b v hb]; exact h
theorem RBlk.lt {w : World} {b : Nat} (h : RBlk w b) : b < w.heap.size := (Array.getElem?_eq_some_iff.1 h).1
theorem RBlk.alloc {w : World} {b : Nat} (h : RBlk w b) (o : Obj) : RBlk (w.alloc o) b := by
  unfold RBlk
  rw [Below.heap_alloc w o b h.lt]; exact h

/-- The blocks of a round's first half: the state, the rotations, the result's, the sums. -/
structure R4 (w0 : World) (fa fs : Nat → W) (w : World) : Prop where
  below : Below w0.heap.size w0 w
  size : w.heap.size = w0.heap.size + 4
  a : Blk w w0.heap.size 25 23 fa
  r : RBlk w (w0.heap.size + 1)
  res : Blk w (w0.heap.size + 1 + 1) 25 23 (fun _ => 0)
  s : Blk w (w0.heap.size + 1 + 1 + 1) 5 58 fs
theorem R4.drew {w0 w : World} {fa fs : Nat → W} (h : R4 w0 fa fs w) : R4 w0 fa fs w.drew := ⟨h.below.drew, h.size, h.a, h.r, h.res, h.s⟩
theorem R4.drewN {w0 w : World} {fa fs : Nat → W} (h : R4 w0 fa fs w) (q : Nat) : R4 w0 fa fs (w.drewN q) := ⟨below_drewN h.below q, h.size, h.a, h.r, h.res, h.s⟩
theorem R4.congr {w0 w : World} {fa fs ga gs : Nat → W} (h : R4 w0 fa fs w) (ha : ∀ i, i < 25 → fa i = ga i) (hs : ∀ i, i < 5 → fs i = gs i) : R4 w0 ga gs w :=
  ⟨h.below, h.size, h.a.congr ha, h.r, h.res, h.s.congr hs⟩
theorem R4.setA {w0 w : World} {fa fs : Nat → W} (h : R4 w0 fa fs w) (i : Nat) (v : W) : R4 w0 (upd fa i v) fs (w.setCell ⟨w0.heap.size, i, none⟩ (.int .u64 (wv v))) :=
  ⟨h.below.setCell (Nat.le_refl _) _, by simpa using h.size, h.a.store i v, h.r.other (by show _ ≠ w0.heap.size; omega) _, h.res.other (by show _ ≠ w0.heap.size; omega) _, h.s.other (by show _ ≠ w0.heap.size; omega) _⟩
theorem R4.setS {w0 w : World} {fa fs : Nat → W} (h : R4 w0 fa fs w) (i : Nat) (v : W) : R4 w0 fa (upd fs i v) (w.setCell ⟨w0.heap.size + 1 + 1 + 1, i, none⟩ (.int .u64 (wv v))) :=
  ⟨h.below.setCell (by show _ ≤ w0.heap.size + 1 + 1 + 1; omega) _, by simpa using h.size, h.a.other (by show _ ≠ w0.heap.size + 1 + 1 + 1; omega) _, h.r.other (by show _ ≠ w0.heap.size + 1 + 1 + 1; omega) _,
    h.res.other (by show _ ≠ w0.heap.size + 1 + 1 + 1; omega) _, h.s.store i v⟩
theorem R4.made (w : World) (f : Nat → W) : R4 w f (fun _ => 0) ((((w.alloc (.cells (vec 25 f) 23)).alloc (.cells rotV 44)).alloc (.cells (vec 25 fun _ => 0) 23)).alloc (.cells (vec 5 fun _ => 0) 58)) := by
  refine ⟨(((((Below.refl _ _).alloc (Nat.le_refl _) _).alloc (by simp) _).alloc (by simp; omega) _).alloc (by simp; omega) _), by simp, ((((Blk.made _ _ _ _).alloc _).alloc _).alloc _), ?_, ?_, ?_⟩
  · have h : RBlk ((w.alloc (.cells (vec 25 f) 23)).alloc (.cells rotV 44)) (w.alloc (.cells (vec 25 f) 23)).heap.size := heap_alloc_new _ _
    rw [World.size_alloc] at h
    exact (h.alloc _).alloc _
  · have h := Blk.made ((w.alloc (.cells (vec 25 f) 23)).alloc (.cells rotV 44)) 25 23 (fun _ => 0)
    rw [World.size_alloc, World.size_alloc] at h
    exact h.alloc _
  · have h := Blk.made (((w.alloc (.cells (vec 25 f) 23)).alloc (.cells rotV 44)).alloc (.cells (vec 25 fun _ => 0) 23)) 5 58 (fun _ => 0)
    rw [World.size_alloc, World.size_alloc, World.size_alloc] at h
    exact h

/-- The blocks of a round's second half: the state, the rotations, the result's, the turned words. -/
structure R5 (w0 : World) (fa fb : Nat → W) (w : World) : Prop where
  below : Below w0.heap.size w0 w
  size : w.heap.size = w0.heap.size + 5
  a : Blk w w0.heap.size 25 23 fa
  r : RBlk w (w0.heap.size + 1)
  res : Blk w (w0.heap.size + 1 + 1) 25 23 (fun _ => 0)
  b : Blk w (w0.heap.size + 4) 25 23 fb
theorem R5.drew {w0 w : World} {fa fs : Nat → W} (h : R5 w0 fa fs w) : R5 w0 fa fs w.drew := ⟨h.below.drew, h.size, h.a, h.r, h.res, h.b⟩
theorem R5.drewN {w0 w : World} {fa fs : Nat → W} (h : R5 w0 fa fs w) (q : Nat) : R5 w0 fa fs (w.drewN q) := ⟨below_drewN h.below q, h.size, h.a, h.r, h.res, h.b⟩
theorem R5.congr {w0 w : World} {fa fs ga gs : Nat → W} (h : R5 w0 fa fs w) (ha : ∀ i, i < 25 → fa i = ga i) (hs : ∀ i, i < 25 → fs i = gs i) : R5 w0 ga gs w :=
  ⟨h.below, h.size, h.a.congr ha, h.r, h.res, h.b.congr hs⟩
theorem R5.setA {w0 w : World} {fa fs : Nat → W} (h : R5 w0 fa fs w) (i : Nat) (v : W) : R5 w0 (upd fa i v) fs (w.setCell ⟨w0.heap.size, i, none⟩ (.int .u64 (wv v))) :=
  ⟨h.below.setCell (Nat.le_refl _) _, by simpa using h.size, h.a.store i v, h.r.other (by show _ ≠ w0.heap.size; omega) _, h.res.other (by show _ ≠ w0.heap.size; omega) _, h.b.other (by show _ ≠ w0.heap.size; omega) _⟩
theorem R5.setB {w0 w : World} {fa fs : Nat → W} (h : R5 w0 fa fs w) (i : Nat) (v : W) : R5 w0 fa (upd fs i v) (w.setCell ⟨w0.heap.size + 4, i, none⟩ (.int .u64 (wv v))) :=
  ⟨h.below.setCell (by show _ ≤ w0.heap.size + 4; omega) _, by simpa using h.size, h.a.other (by show _ ≠ w0.heap.size + 4; omega) _, h.r.other (by show _ ≠ w0.heap.size + 4; omega) _,
    h.res.other (by show _ ≠ w0.heap.size + 4; omega) _, h.b.store i v⟩
theorem R4.next {w0 w : World} {fa fs : Nat → W} (h : R4 w0 fa fs w) : R5 w0 fa (fun _ => 0) (w.alloc (.cells (vec 25 fun _ => 0) 23)) := by
  refine ⟨h.below.alloc (by have := h.size; omega) _, by simp [h.size], h.a.alloc _, h.r.alloc _, h.res.alloc _, ?_⟩
  have := Blk.made w 25 23 (fun _ => 0)
  rwa [h.size] at this
theorem RBlk.rowOther {w : World} {b : Nat} (h : RBlk w b) {c : Nat} (hc : b ≠ c) (cs : Array Value) : RBlk (w.setRow c cs) b := by
  unfold RBlk
  rw [setRow_other w c b cs hc]; exact h
theorem R4.next2 {w0 w : World} {fa fs : Nat → W} (h : R4 w0 fa fs w) : R5 w0 fa (fun _ => 0) ((w.alloc (.cells (vec 25 fun _ => 0) 23)).setRow (w0.heap.size + 4) (vec 25 fun _ => 0)) := by
  have h5 := h.next
  exact ⟨below_setRow h5.below (by omega) _, by rw [size_setRow]; exact h5.size, h5.a.rowOther (by omega) _, h5.r.rowOther (by omega) _, h5.res.rowOther (by omega) _, h5.b.row _⟩
end Go.Proofs.YtojmolemhdonfaaDoor
