/-
  Different states are permuted to different ones: each step of a round can be undone. No program is named here.
-/
import Derived.Test.YtojmolemhdonfaaDoorKeccak
namespace Go.Proofs.YtojmolemhdonfaaDoor.Kec

theorem rotl_lsb (x : W) {n j : Nat} (hj : j < 64) : (rotl x n).getLsbD j = if j < n then x.getLsbD (64 - n + j) else x.getLsbD (j - n) := by
  unfold rotl
  rw [BitVec.getLsbD_or, BitVec.getLsbD_shiftLeft, BitVec.getLsbD_ushiftRight]
  by_cases h : j < n
  · simp [h, hj]
  · have h2 : 64 ≤ 64 - n + j := by omega
    rw [if_neg h, BitVec.getLsbD_of_ge x _ h2]
    simp [h, hj]
theorem rotl_xor (x y : W) (n : Nat) : rotl (x ^^^ y) n = rotl x n ^^^ rotl y n := by
  apply BitVec.eq_of_getLsbD_eq
  intro j hj
  rw [BitVec.getLsbD_xor, rotl_lsb _ hj, rotl_lsb _ hj, rotl_lsb _ hj]
  split <;> rw [BitVec.getLsbD_xor]
theorem rotl_inj {x y : W} {n : Nat} (hn : n ≤ 63) (h : rotl x n = rotl y n) : x = y := by
  apply BitVec.eq_of_getLsbD_eq
  intro j hj
  by_cases c : j + n < 64
  · have e : (rotl x n).getLsbD (j + n) = (rotl y n).getLsbD (j + n) := by rw [h]
    rw [rotl_lsb _ c, rotl_lsb _ c, if_neg (by omega), if_neg (by omega), Nat.add_sub_cancel] at e
    exact e
  · have e : (rotl x n).getLsbD (j + n - 64) = (rotl y n).getLsbD (j + n - 64) := by rw [h]
    rw [rotl_lsb _ (by omega), rotl_lsb _ (by omega), if_pos (by omega), if_pos (by omega), show 64 - n + (j + n - 64) = j from by omega] at e
    exact e
theorem rotl_rotl (x : W) {n : Nat} (hn : n ≤ 31) : rotl (rotl x n) n = rotl x (2 * n) := by
  apply BitVec.eq_of_getLsbD_eq
  intro j hj
  rw [rotl_lsb _ hj, rotl_lsb _ hj]
  by_cases h : j < n
  · rw [if_pos h, if_pos (by omega), rotl_lsb _ (by omega), if_neg (by omega)]
    congr 1; omega
  · rw [if_neg h, rotl_lsb _ (by omega)]
    by_cases h2 : j < 2 * n
    · rw [if_pos (by omega), if_pos h2]
      congr 1; omega
    · rw [if_neg (by omega), if_neg h2]
      congr 1; omega
theorem rotl_32 (x : W) : rotl (rotl x 32) 32 = x := by
  apply BitVec.eq_of_getLsbD_eq
  intro j hj
  rw [rotl_lsb _ hj]
  by_cases h : j < 32
  · rw [if_pos h, rotl_lsb _ (by omega), if_neg (by omega)]
    congr 1; omega
  · rw [if_neg h, rotl_lsb _ (by omega), if_pos (by omega)]
    congr 1; omega

/-- Cancelling: nine words of which pairs meet. -/
theorem cancel (a b p e q r : W) : (a ^^^ (b ^^^ p)) ^^^ ((b ^^^ (e ^^^ q)) ^^^ (p ^^^ (q ^^^ r))) = a ^^^ (e ^^^ r) := by
  apply BitVec.eq_of_getLsbD_eq
  intro j _
  simp only [BitVec.getLsbD_xor]
  cases a.getLsbD j <;> cases b.getLsbD j <;> cases p.getLsbD j <;> cases e.getLsbD j <;> cases q.getLsbD j <;> cases r.getLsbD j <;> rfl
/-- A column's sum with its neighbours', k columns and k bits away. -/
def mk (k : Nat) (c : Nat → W) (x : Nat) : W := c x ^^^ (c ((x + 4 * k) % 5) ^^^ rotl (c ((x + k) % 5)) k)
theorem mk_mk {k : Nat} (hk : k ≤ 31) (c : Nat → W) {x : Nat} (hx : x < 5) : mk k (mk k c) x = mk (2 * k) c x := by
  unfold mk
  rw [show ((x + 4 * k) % 5 + 4 * k) % 5 = (x + 4 * (2 * k)) % 5 from by omega, show ((x + 4 * k) % 5 + k) % 5 = x from by omega,
    show ((x + k) % 5 + 4 * k) % 5 = x from by omega, show ((x + k) % 5 + k) % 5 = (x + 2 * k) % 5 from by omega, rotl_xor, rotl_xor, rotl_rotl _ hk]
  exact cancel _ _ _ _ _ _
/-- The same without bits. -/
def nk (c : Nat → W) (x : Nat) : W := c x ^^^ (c ((x + 1) % 5) ^^^ c ((x + 4) % 5))
theorem mk_32 (c : Nat → W) {x : Nat} (hx : x < 5) : mk 32 (mk 32 c) x = nk c x := by
  unfold mk nk
  rw [show ((x + 4 * 32) % 5 + 4 * 32) % 5 = (x + 1) % 5 from by omega, show ((x + 4 * 32) % 5 + 32) % 5 = x from by omega,
    show ((x + 32) % 5 + 4 * 32) % 5 = x from by omega, show ((x + 32) % 5 + 32) % 5 = (x + 4) % 5 from by omega, rotl_xor, rotl_xor, rotl_32]
  exact cancel _ _ _ _ _ _
theorem nk_3 (c : Nat → W) {x : Nat} (hx : x < 5) : nk (nk (nk c)) x = c x := by
  unfold nk
  rw [show ((x + 1) % 5 + 1) % 5 = (x + 2) % 5 from by omega, show ((x + 1) % 5 + 4) % 5 = x from by omega, show ((x + 4) % 5 + 1) % 5 = x from by omega, show ((x + 4) % 5 + 4) % 5 = (x + 3) % 5 from by omega,
    show ((x + 2) % 5 + 1) % 5 = (x + 3) % 5 from by omega, show ((x + 2) % 5 + 4) % 5 = (x + 1) % 5 from by omega, show ((x + 3) % 5 + 1) % 5 = (x + 4) % 5 from by omega, show ((x + 3) % 5 + 4) % 5 = (x + 2) % 5 from by omega]
  generalize c x = a; generalize c ((x + 1) % 5) = b; generalize c ((x + 2) % 5) = d; generalize c ((x + 3) % 5) = e; generalize c ((x + 4) % 5) = f
  apply BitVec.eq_of_getLsbD_eq
  intro j _
  simp only [BitVec.getLsbD_xor]
  cases a.getLsbD j <;> cases b.getLsbD j <;> cases d.getLsbD j <;> cases e.getLsbD j <;> cases f.getLsbD j <;> rfl
theorem mk_congr {k : Nat} {c d : Nat → W} (h : ∀ x, x < 5 → c x = d x) : ∀ x, x < 5 → mk k c x = mk k d x := fun x hx => by
  unfold mk; rw [h x hx, h _ (by omega), h _ (by omega)]
theorem nk_congr {c d : Nat → W} (h : ∀ x, x < 5 → c x = d x) : ∀ x, x < 5 → nk c x = nk d x := fun x hx => by
  unfold nk; rw [h x hx, h _ (by omega), h _ (by omega)]
theorem mk_next {k : Nat} (hk : k ≤ 31) {c d : Nat → W} (h : ∀ x, x < 5 → mk k c x = mk k d x) : ∀ x, x < 5 → mk (2 * k) c x = mk (2 * k) d x := fun x hx => by
  rw [← mk_mk hk c hx, ← mk_mk hk d hx]; exact mk_congr h x hx
theorem mk_inj {c d : Nat → W} (h : ∀ x, x < 5 → mk 1 c x = mk 1 d x) : ∀ x, x < 5 → c x = d x := by
  have h2 := mk_next (k := 1) (by omega) h
  have h4 := mk_next (k := 2) (by omega) h2
  have h8 := mk_next (k := 4) (by omega) h4
  have h16 := mk_next (k := 8) (by omega) h8
  have h32 := mk_next (k := 16) (by omega) h16
  have hn : ∀ x, x < 5 → nk c x = nk d x := fun x hx => by
    rw [← mk_32 c hx, ← mk_32 d hx]; exact mk_congr h32 x hx
  intro x hx
  rw [← nk_3 c hx, ← nk_3 d hx]
  exact nk_congr (nk_congr hn) x hx

/-- A column's sum behind step 1. -/
theorem col_theta (f : Nat → W) {x : Nat} (hx : x < 5) : col (theta f) x = mk 1 (col f) x := by
  have e : mk 1 (col f) x = col f x ^^^ dd f x := by
    unfold mk dd
    rw [show (x + 4 * 1) % 5 = (x + 4) % 5 from by omega]
  rw [e]
  unfold col theta
  rw [show x % 5 = x from by omega, show (x + 5) % 5 = x from by omega, show (x + 10) % 5 = x from by omega, show (x + 15) % 5 = x from by omega, show (x + 20) % 5 = x from by omega]
  generalize dd f x = d; generalize f x = a; generalize f (x + 5) = b; generalize f (x + 10) = c; generalize f (x + 15) = g; generalize f (x + 20) = h
  apply BitVec.eq_of_getLsbD_eq
  intro j _
  simp only [BitVec.getLsbD_xor]
  cases d.getLsbD j <;> cases a.getLsbD j <;> cases b.getLsbD j <;> cases c.getLsbD j <;> cases g.getLsbD j <;> cases h.getLsbD j <;> rfl
theorem xor_right {a b d : W} (h : a ^^^ d = b ^^^ d) : a = b := by
  apply BitVec.eq_of_getLsbD_eq
  intro j _
  have e := congrArg (fun v => BitVec.getLsbD v j) h
  simp only [BitVec.getLsbD_xor] at e
  revert e
  cases a.getLsbD j <;> cases b.getLsbD j <;> cases d.getLsbD j <;> decide
theorem theta_inj {f g : Nat → W} (h : ∀ i, i < 25 → theta f i = theta g i) : ∀ i, i < 25 → f i = g i := by
  have hc : ∀ x, x < 5 → col f x = col g x := mk_inj fun x hx => by
    rw [← col_theta f hx, ← col_theta g hx]
    unfold col
    rw [h x (by omega), h (x + 5) (by omega), h (x + 10) (by omega), h (x + 15) (by omega), h (x + 20) (by omega)]
  intro i hi
  have hd : dd f (i % 5) = dd g (i % 5) := by unfold dd; rw [hc _ (by omega), hc _ (by omega)]
  have := h i hi
  unfold theta at this
  rw [hd] at this
  exact xor_right this
theorem rho_inj {f g : Nat → W} (h : ∀ i, i < 25 → rho f i = rho g i) : ∀ i, i < 25 → f i = g i := by
  intro i hi
  have e := h (dst (i % 5) (i / 5)) (dst_lt (by omega))
  unfold rho at e
  rw [src_dst (x := i % 5) (y := i / 5) (by omega) (by omega), show i % 5 + 5 * (i / 5) = i from by omega] at e
  have hr : ∀ i : Fin 25, rot i.1 ≤ 63 := by decide
  exact rotl_inj (hr ⟨i, hi⟩) e
theorem chi_bits : ∀ a0 a1 a2 a3 a4 b0 b1 b2 b3 b4 : Bool, (a0 ^^ (!a1 && a2)) = (b0 ^^ (!b1 && b2)) → (a1 ^^ (!a2 && a3)) = (b1 ^^ (!b2 && b3)) → (a2 ^^ (!a3 && a4)) = (b2 ^^ (!b3 && b4)) →
    (a3 ^^ (!a4 && a0)) = (b3 ^^ (!b4 && b0)) → (a4 ^^ (!a0 && a1)) = (b4 ^^ (!b0 && b1)) → a0 = b0 ∧ a1 = b1 ∧ a2 = b2 ∧ a3 = b3 ∧ a4 = b4 := by decide +kernel
theorem chi_at (f : Nat → W) (x y : Nat) (hx : x < 5) {j : Nat} (hj : j < 64) : (chi f (x + 5 * y)).getLsbD j = ((f (x + 5 * y)).getLsbD j ^^ (!(f ((x + 1) % 5 + 5 * y)).getLsbD j && (f ((x + 2) % 5 + 5 * y)).getLsbD j)) := by
  unfold chi
  rw [show (x + 5 * y) % 5 = x from by omega, show (x + 5 * y) / 5 = y from by omega]
  simp [hj]
theorem chi_inj {f g : Nat → W} (h : ∀ i, i < 25 → chi f i = chi g i) : ∀ i, i < 25 → f i = g i := by
  have key : ∀ y, y < 5 → ∀ x, x < 5 → f (x + 5 * y) = g (x + 5 * y) := by
    intro y hy
    have bits : ∀ j, j < 64 → ∀ x, x < 5 → (f (x + 5 * y)).getLsbD j = (g (x + 5 * y)).getLsbD j := by
      intro j hj
      have e : ∀ x, x < 5 → ((f (x + 5 * y)).getLsbD j ^^ (!(f ((x + 1) % 5 + 5 * y)).getLsbD j && (f ((x + 2) % 5 + 5 * y)).getLsbD j)) = ((g (x + 5 * y)).getLsbD j ^^ (!(g ((x + 1) % 5 + 5 * y)).getLsbD j && (g ((x + 2) % 5 + 5 * y)).getLsbD j)) := fun x hx => by
        rw [← chi_at f x y hx hj, ← chi_at g x y hx hj, h _ (by omega)]
      have e0 := e 0 (by omega); have e1 := e 1 (by omega); have e2 := e 2 (by omega); have e3 := e 3 (by omega); have e4 := e 4 (by omega)
      simp only [Nat.reduceAdd, Nat.reduceMod] at e0 e1 e2 e3 e4
      obtain ⟨k0, k1, k2, k3, k4⟩ := chi_bits _ _ _ _ _ _ _ _ _ _ e0 e1 e2 e3 e4
      intro x hx
      rcases (show x = 0 ∨ x = 1 ∨ x = 2 ∨ x = 3 ∨ x = 4 by omega) with e | e | e | e | e <;> subst e <;> assumption
    intro x hx
    exact BitVec.eq_of_getLsbD_eq fun j hj => bits j hj x hx
  intro i hi
  have := key (i / 5) (by omega) (i % 5) (by omega)
  rw [show i % 5 + 5 * (i / 5) = i from by omega] at this
  exact this
theorem iota_inj {c : W} {f g : Nat → W} (h : ∀ i, i < 25 → iota c f i = iota c g i) : ∀ i, i < 25 → f i = g i := by
  intro i hi
  have e := h i hi
  unfold iota at e
  by_cases c0 : i = 0
  · subst c0; rw [if_pos rfl, if_pos rfl] at e; exact xor_right e
  · rw [if_neg c0, if_neg c0] at e; exact e
theorem round_inj {k : Nat} {f g : Nat → W} (h : ∀ i, i < 25 → round k f i = round k g i) : ∀ i, i < 25 → f i = g i := theta_inj (rho_inj (chi_inj (iota_inj h)))
theorem rounds_inj {f g : Nat → W} : ∀ k, (∀ i, i < 25 → rounds k f i = rounds k g i) → ∀ i, i < 25 → f i = g i
  | 0, h => h
  | k + 1, h => rounds_inj k (round_inj h)
theorem perm_inj {f g : Nat → W} (h : ∀ i, i < 25 → perm f i = perm g i) : ∀ i, i < 25 → f i = g i := rounds_inj 24 h
end Go.Proofs.YtojmolemhdonfaaDoor.Kec
