/-
  The permutation in plain functions of the places of a state. No program is named here.
-/
namespace Go.Proofs.YtojmolemhdonfaaDoor.Kec

abbrev W := BitVec 64
/-- Rotated to the left. -/
def rotl (x : W) (n : Nat) : W := (x <<< n) ||| (x >>> (64 - n))
/-- By how many bits the words are rotated. -/
def rots : List Nat := [0, 1, 62, 28, 27, 36, 44, 6, 55, 20, 3, 10, 43, 25, 39, 41, 45, 15, 21, 8, 18, 2, 61, 56, 14]
/-- The rounds' constants. -/
def rcs : List W := [0x0000000000000001, 0x0000000000008082, 0x800000000000808a, 0x8000000080008000, 0x000000000000808b, 0x0000000080000001, 0x8000000080008081, 0x8000000000008009, 0x000000000000008a, 0x0000000000000088, 0x0000000080008009, 0x000000008000000a, 0x000000008000808b, 0x800000000000008b, 0x8000000000008089, 0x8000000000008003, 0x8000000000008002, 0x8000000000000080, 0x000000000000800a, 0x800000008000000a, 0x8000000080008081, 0x8000000000008080, 0x0000000080000001, 0x8000000080008008]
def rot (i : Nat) : Nat := rots.getD i 0
def rc (i : Nat) : W := rcs.getD i 0
/-- A column's sum. -/
def col (f : Nat → W) (x : Nat) : W := f x ^^^ f (x + 5) ^^^ f (x + 10) ^^^ f (x + 15) ^^^ f (x + 20)
def dd (f : Nat → W) (x : Nat) : W := col f ((x + 4) % 5) ^^^ rotl (col f ((x + 1) % 5)) 1
/-- Step 1. -/
def theta (f : Nat → W) (i : Nat) : W := f i ^^^ dd f (i % 5)
/-- Where step 2 takes the word at place j from. -/
def src (j : Nat) : Nat := (3 * (j / 5) + j % 5) % 5 + 5 * (j % 5)
/-- Step 2. -/
def rho (f : Nat → W) (j : Nat) : W := rotl (f (src j)) (rot (src j))
/-- Step 3. -/
def chi (f : Nat → W) (i : Nat) : W := f i ^^^ (~~~ (f ((i % 5 + 1) % 5 + 5 * (i / 5))) &&& f ((i % 5 + 2) % 5 + 5 * (i / 5)))
/-- Step 4. -/
def iota (c : W) (f : Nat → W) (i : Nat) : W := if i = 0 then f 0 ^^^ c else f i
def round (k : Nat) (f : Nat → W) : Nat → W := iota (rc k) (chi (rho (theta f)))
/-- The first k rounds. -/
def rounds : Nat → (Nat → W) → Nat → W
  | 0, f => f
  | k + 1, f => round k (rounds k f)
def perm (f : Nat → W) : Nat → W := rounds 24 f

/-- The columns' sums, the first k of them. -/
def colTo (f : Nat → W) (k : Nat) : Nat → W := fun j => if j < k then col f j else 0
/-- Step 1, as far as column x and row y. -/
def thTo (f : Nat → W) (x y : Nat) : Nat → W := fun i => if i % 5 < x ∨ (i % 5 = x ∧ i / 5 < y) then theta f i else f i
/-- Step 2, as far as row y and column x of its source. -/
def rhoTo (f : Nat → W) (y x : Nat) : Nat → W := fun j => if src j / 5 < y ∨ (src j / 5 = y ∧ src j % 5 < x) then rho f j else 0
/-- Step 3, as far as row y and column x. -/
def chiTo (g f : Nat → W) (y x : Nat) : Nat → W := fun i => if i / 5 < y ∨ (i / 5 = y ∧ i % 5 < x) then chi f i else g i
/-- One word put at a place. -/
def upd (f : Nat → W) (i : Nat) (v : W) : Nat → W := fun j => if j = i then v else f j
theorem upd_same (f : Nat → W) (i : Nat) (v : W) : upd f i v i = v := if_pos rfl
theorem upd_other (f : Nat → W) {i j : Nat} (v : W) (h : j ≠ i) : upd f i v j = f j := if_neg h

theorem colTo_zero (f : Nat → W) (i : Nat) : colTo f 0 i = 0 := if_neg (by omega)
theorem colTo_succ (f : Nat → W) (k : Nat) (i : Nat) : upd (colTo f k) k (col f k) i = colTo f (k + 1) i := by
  by_cases e : i = k
  · subst e; rw [upd_same]; unfold colTo; rw [if_pos (by omega)]
  · rw [upd_other _ _ e]; unfold colTo
    by_cases h : i < k
    · rw [if_pos h, if_pos (by omega)]
    · rw [if_neg h, if_neg (by omega)]
theorem colTo_at (f : Nat → W) {i : Nat} (h : i < 5) : colTo f 5 i = col f i := if_pos h
theorem thTo_zero (f : Nat → W) (i : Nat) : thTo f 0 0 i = f i := by unfold thTo; rw [if_neg (by omega)]
theorem thTo_at (f : Nat → W) {x y : Nat} (hx : x < 5) : thTo f x y (x + 5 * y) = f (x + 5 * y) := by unfold thTo; rw [if_neg (by omega)]
theorem thTo_row (f : Nat → W) (x : Nat) (i : Nat) (hi : i < 25) : thTo f x 5 i = thTo f (x + 1) 0 i := by
  unfold thTo
  by_cases h : i % 5 < x ∨ i % 5 = x
  · rw [if_pos (by omega), if_pos (by omega)]
  · rw [if_neg (by omega), if_neg (by omega)]
theorem thTo_succ (f : Nat → W) {x y : Nat} (hx : x < 5) (i : Nat) : upd (thTo f x y) (x + 5 * y) (f (x + 5 * y) ^^^ dd f x) i = thTo f x (y + 1) i := by
  by_cases e : i = x + 5 * y
  · subst e; rw [upd_same]; unfold thTo
    rw [if_pos (by omega)]
    unfold theta
    rw [show (x + 5 * y) % 5 = x from by omega]
  · rw [upd_other _ _ e]; unfold thTo
    by_cases h : i % 5 < x ∨ (i % 5 = x ∧ i / 5 < y)
    · rw [if_pos h, if_pos (by omega)]
    · rw [if_neg h, if_neg (by omega)]
theorem thTo_all (f : Nat → W) (i : Nat) : thTo f 5 0 i = theta f i := by unfold thTo; rw [if_pos (by omega)]
/-- The place to which step 2 takes the word at x, y. -/
def dst (x y : Nat) : Nat := y + 5 * ((2 * x + 3 * y) % 5)
theorem src_dst {x y : Nat} (hx : x < 5) (hy : y < 5) : src (dst x y) = x + 5 * y :=
  (by decide : ∀ x y : Fin 5, src (dst x.1 y.1) = x.1 + 5 * y.1) ⟨x, hx⟩ ⟨y, hy⟩
theorem dst_src {j : Nat} (hj : j < 25) : dst (src j % 5) (src j / 5) = j :=
  (by decide : ∀ j : Fin 25, dst (src j.1 % 5) (src j.1 / 5) = j.1) ⟨j, hj⟩
theorem dst_lt {x y : Nat} (hy : y < 5) : dst x y < 25 := by unfold dst; omega
theorem rhoTo_zero (f : Nat → W) (i : Nat) : rhoTo f 0 0 i = 0 := if_neg (by omega)
theorem rhoTo_row (f : Nat → W) (y : Nat) (j : Nat) : rhoTo f y 5 j = rhoTo f (y + 1) 0 j := by
  unfold rhoTo
  by_cases h : src j / 5 < y ∨ src j / 5 = y
  · rw [if_pos (by omega), if_pos (by omega)]
  · rw [if_neg (by omega), if_neg (by omega)]
theorem rhoTo_succ (f : Nat → W) {x y : Nat} (hx : x < 5) (hy : y < 5) (j : Nat) (hj : j < 25) :
    upd (rhoTo f y x) (dst x y) (rotl (f (x + 5 * y)) (rot (x + 5 * y))) j = rhoTo f y (x + 1) j := by
  have sd := src_dst hx hy
  by_cases e : j = dst x y
  · subst e; rw [upd_same]; unfold rhoTo
    rw [if_pos (by rw [sd]; omega)]
    unfold rho; rw [sd]
  · rw [upd_other _ _ e]
    have ds := dst_src hj
    have hne : ¬ (src j / 5 = y ∧ src j % 5 = x) := fun h => e (by rw [← ds, h.1, h.2])
    unfold rhoTo
    by_cases h : src j / 5 < y ∨ (src j / 5 = y ∧ src j % 5 < x)
    · rw [if_pos h, if_pos (by omega)]
    · rw [if_neg h, if_neg (by omega)]
theorem rhoTo_all (f : Nat → W) (j : Nat) : rhoTo f 5 0 j = rho f j := by
  unfold rhoTo; rw [if_pos]; unfold src; omega
theorem chiTo_zero (g f : Nat → W) (i : Nat) : chiTo g f 0 0 i = g i := if_neg (by omega)
theorem chiTo_row (g f : Nat → W) (y : Nat) (i : Nat) : chiTo g f y 5 i = chiTo g f (y + 1) 0 i := by
  unfold chiTo
  by_cases h : i / 5 < y ∨ i / 5 = y
  · rw [if_pos (by omega), if_pos (by omega)]
  · rw [if_neg (by omega), if_neg (by omega)]
theorem chiTo_succ (g f : Nat → W) {x y : Nat} (hx : x < 5) (i : Nat) :
    upd (chiTo g f y x) (x + 5 * y) (f (x + 5 * y) ^^^ (~~~ (f ((x + 1) % 5 + 5 * y)) &&& f ((x + 2) % 5 + 5 * y))) i = chiTo g f y (x + 1) i := by
  by_cases e : i = x + 5 * y
  · subst e; rw [upd_same]; unfold chiTo
    rw [if_pos (by omega)]
    unfold chi
    rw [show (x + 5 * y) % 5 = x from by omega, show (x + 5 * y) / 5 = y from by omega]
  · rw [upd_other _ _ e]; unfold chiTo
    by_cases h : i / 5 < y ∨ (i / 5 = y ∧ i % 5 < x)
    · rw [if_pos h, if_pos (by omega)]
    · rw [if_neg h, if_neg (by omega)]
theorem chiTo_all (g f : Nat → W) (i : Nat) (hi : i < 25) : chiTo g f 5 0 i = chi f i := by unfold chiTo; rw [if_pos (by omega)]
end Go.Proofs.YtojmolemhdonfaaDoor.Kec
