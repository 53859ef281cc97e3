/-
  More plain arithmetic of the calendar: so many years later. No program is named here.
-/
import Derived.Test.YtjpiaccpcmlfnaaDoorMath
namespace Go.Proofs.YtjpiaccpcmlfnaaDoor.Cal

/-- The length of a month in any year. -/
def len0 (y m : Int) : Int := ml m + (if m = 2 then lp y else 0)
theorem len0_nonneg (y m : Int) (c : 1 ≤ m) (d : m ≤ 12) : 0 ≤ len0 y m := by
  have := ml_bd m c d; have := lp_01 y
  unfold len0; split <;> omega
theorem cum_succ0 (y m : Int) (c : 1 ≤ m) (d : m ≤ 12) : cum y (m + 1) = cum y m + len0 y m := by
  unfold cum len0
  rw [c0_succ m c d]
  by_cases e : m = 2
  · subst e; simp; omega
  · by_cases f : 3 ≤ m
    · rw [if_pos (by omega), if_pos f, if_neg e]; omega
    · rw [if_neg (by omega), if_neg f, if_neg e]; omega
theorem cum_mono0 (y m : Int) (h1 : 1 ≤ m) : ∀ k : Nat, m + k ≤ 13 → cum y m ≤ cum y (m + k) := by
  intro k
  induction k with
  | zero => intro _; simp
  | succ k ih =>
    intro h
    have := ih (by omega)
    have e := cum_succ0 y (m + k) (by omega) (by omega)
    have := len0_nonneg y (m + k) (by omega) (by omega)
    rw [show m + ((k + 1 : Nat) : Int) = m + k + 1 from by omega]
    omega
theorem cum_le0 (y m m' : Int) (h1 : 1 ≤ m) (h : m ≤ m') (h2 : m' ≤ 13) : cum y m ≤ cum y m' := by
  have := cum_mono0 y m h1 (m' - m).toNat (by omega)
  rw [show m + ((m' - m).toNat : Int) = m' from by omega] at this
  exact this
theorem num_year0 {y m d : Int} (c : 1 ≤ m) (e : m ≤ 12) (f : 1 ≤ d) (g : d ≤ len0 y m) : ys y ≤ num y m d ∧ num y m d < ys (y + 1) := by
  have h1 := cum_bd y m c (by omega)
  have h2 := cum_succ0 y m c e
  have h3 := cum_le0 y (m + 1) 13 (by omega) (by omega) (by omega)
  rw [cum_13] at h3
  have h4 := ys_succ y
  unfold num
  omega
theorem len0_of {y m : Int} (a : 1600 ≤ y) (b : y ≤ 4470) (c : 1 ≤ m) (d : m ≤ 12) : len y m = len0 y m := len_in y m a b c d
/-- The day of the month, so many years later, is one of that month. -/
theorem day28_in {y m d k : Int} (h : Valid y m d) : 1 ≤ day28 y m d k ∧ day28 y m d k ≤ len0 (y + k) m := by
  obtain ⟨a, b, c, e, f, g⟩ := h
  rw [len0_of a b c e] at g
  have := lp_01 y; have := lp_01 (y + k); have := ml_bd m c e
  unfold day28 len0 at *
  by_cases h2 : m = 2
  · subst h2
    rw [ml_two, if_pos rfl] at *
    by_cases h3 : d = 29
    · by_cases h4 : lp (y + k) = 0
      · rw [if_pos ⟨rfl, h3, h4⟩]; omega
      · rw [if_neg (fun x => h4 x.2.2)]; omega
    · rw [if_neg (fun x => h3 x.2.1)]; omega
  · rw [if_neg (fun x => h2 x.1), if_neg h2]; rw [if_neg h2] at g; omega
theorem day28_zero {y m d : Int} (h : Valid y m d) : day28 y m d 0 = d := by
  obtain ⟨a, b, c, e, f, g⟩ := h
  unfold day28
  rw [if_neg]
  rintro ⟨rfl, rfl, h0⟩
  rw [Int.add_zero] at h0
  rw [len_in y 2 a b (by omega) (by omega), ml_two, if_pos rfl] at g
  omega
theorem day28_other {y m d k : Int} (h : ¬ (m = 2 ∧ d = 29 ∧ lp (y + k) = 0)) : day28 y m d k = d := if_neg h
theorem day28_sub (y m d k : Int) (h : Valid y m d) : d - 1 ≤ day28 y m d k ∧ day28 y m d k ≤ d ∧ (day28 y m d k < d → m = 2 ∧ lp y = 1) := by
  obtain ⟨a, b, c, e, f, g⟩ := h
  by_cases x : m = 2 ∧ d = 29 ∧ lp (y + k) = 0
  · have : day28 y m d k = 28 := if_pos x
    obtain ⟨rfl, rfl, _⟩ := x
    rw [len_in y 2 a b (by omega) (by omega), ml_two, if_pos rfl] at g
    have := lp_01 y
    refine ⟨by omega, by omega, fun _ => ⟨rfl, by omega⟩⟩
  · rw [day28_other x]
    exact ⟨by omega, by omega, fun h => by omega⟩
theorem day28_mono {y m d d' k : Int} (h' : Valid y m d') (h : d ≤ d') (h1 : Valid y m d) : day28 y m d k ≤ day28 y m d' k := by
  have s := day28_sub y m d k h1
  have s' := day28_sub y m d' k h'
  by_cases e : d = d'
  · rw [e]; omega
  · by_cases x : m = 2 ∧ d' = 29 ∧ lp (y + k) = 0
    · have : day28 y m d' k = 28 := if_pos x
      omega
    · rw [day28_other x]; omega

/-- The day so many years later, before the last day is looked at. -/
def later (y m d k : Int) : Int := num (y + k) m (day28 y m d k)
theorem later_year {y m d k : Int} (h : Valid y m d) : ys (y + k) ≤ later y m d k ∧ later y m d k < ys (y + k + 1) :=
  num_year0 h.2.2.1 h.2.2.2.1 (day28_in h).1 (day28_in h).2
theorem later_mono {a b y m d y' m' d' k : Int} (h : IsDate a y m d) (h' : IsDate b y' m' d') (hab : a ≤ b) : later y m d k ≤ later y' m' d' k := by
  have q := num_year h.1; have q' := num_year h'.1
  rw [h.2] at q; rw [h'.2] at q'
  have l := later_year (k := k) h.1; have l' := later_year (k := k) h'.1
  have hy : y ≤ y' := by
    rcases (show y ≤ y' ∨ y' + 1 ≤ y by omega) with e | e
    · exact e
    · have := ys_mono (y' + 1) y e; omega
  rcases (show y = y' ∨ y + 1 ≤ y' by omega) with e | e
  · subst e
    obtain ⟨v, e1⟩ := h; obtain ⟨v', e2⟩ := h'
    have b' := v'; have b1 := v
    obtain ⟨v1, v2, v3, v4, v5, v6⟩ := v; obtain ⟨_, _, w3, w4, w5, w6⟩ := v'
    have s := cum_succ y m v1 v2 v3 v4; have s' := cum_succ y m' v1 v2 w3 w4
    have hm : m ≤ m' := by
      rcases (show m ≤ m' ∨ m' + 1 ≤ m by omega) with f | f
      · exact f
      · have := cum_le y (m' + 1) m v1 v2 (by omega) f (by omega)
        unfold num at e1 e2; omega
    rcases (show m = m' ∨ m + 1 ≤ m' by omega) with f | f
    · subst f
      have hd : d ≤ d' := by unfold num at e1 e2; omega
      have := day28_mono (k := k) b' hd b1
      unfold later num; omega
    · have t := cum_le0 (y + k) (m + 1) m' (by omega) f (by omega)
      have u := cum_succ0 (y + k) m v3 v4
      have i1 := (day28_in (k := k) b1).2; have i2 := (day28_in (k := k) b').1
      unfold later num; omega
  · have := ys_mono (y + k + 1) (y' + k) (by omega)
    omega
theorem later_more {y m d k l : Int} (h : Valid y m d) (hl : 0 ≤ l) : later y m d k ≤ later y m d (k + l) := by
  rcases (show l = 0 ∨ 1 ≤ l by omega) with e | e
  · rw [e, Int.add_zero]; omega
  · have a := (later_year (k := k) h).2
    have b := (later_year (k := k + l) h).1
    have := ys_mono (y + k + 1) (y + (k + l)) (by omega)
    omega
theorem later_bounds {n y m d k : Int} (h : IsDate n y m d) (hk : 0 ≤ k) : later y m d k - n ≤ 366 * k ∧ 365 * k ≤ later y m d k - n := by
  obtain ⟨v, e⟩ := h
  rcases (show k = 0 ∨ 1 ≤ k by omega) with z | z
  · subst z
    unfold later
    rw [day28_zero v, Int.add_zero, e]; omega
  · have u := ys_upper (y + 1) (y + k) (by omega)
    have w := ys_mono (y + 1) (y + k) (by omega)
    have s := ys_succ y
    have l0 := lp_01 y; have l1 := lp_01 (y + k)
    obtain ⟨d1, d2, d3⟩ := day28_sub y m d k v
    unfold later
    unfold num at *
    unfold cum at *
    by_cases hm : 3 ≤ m
    · rw [if_pos hm] at *
      have : day28 y m d k = d := by
        rcases (show day28 y m d k < d ∨ day28 y m d k = d by omega) with x | x
        · have := (d3 x).1; omega
        · exact x
      omega
    · rw [if_neg hm] at *
      rcases (show day28 y m d k < d ∨ day28 y m d k = d by omega) with x | x
      · have := (d3 x).2; omega
      · omega
theorem lastV_eq (y m d : Int) : lastV y m d = if num y m d ≤ 1048575 then num y m d else 1048575 := rfl
theorem last_mono {x z : Int} (h : x ≤ z) : (if x ≤ 1048575 then x else 1048575 : Int) ≤ (if z ≤ 1048575 then z else 1048575) := by split <;> split <;> omega
/-- The end of a year. -/
theorem end_num (y : Int) : num y 12 31 = ys (y + 1) - 1 := by
  have := ys_succ y
  unfold num; rw [cum_12]; omega
theorem end_date {n y m d : Int} (h : IsDate n y m d) : ∃ m' d', IsDate (lastV y 12 31) y m' d' := by
  obtain ⟨a, b, _⟩ := h.1
  by_cases c : num y 12 31 ≤ 1048575
  · have : lastV y 12 31 = num y 12 31 := if_pos c
    have hl : len y 12 = 31 := by rw [len_in y 12 a b (by omega) (by omega)]; have : ml 12 = 31 := by decide
                                  rw [this]; simp
    exact ⟨12, 31, ⟨a, b, by omega, by omega, by omega, by omega⟩, this.symm⟩
  · have hl : lastV y 12 31 = 1048575 := if_neg c
    rw [end_num] at c
    have : y = 4470 := by
      rcases (show y = 4470 ∨ y + 1 ≤ 4470 by omega) with e | e
      · exact e
      · have h1 := ys_mono (y + 1) 4470 e
        have h2 : ys 4470 = 1048247 := by decide
        omega
    subst this
    rw [hl]
    exact ⟨11, 25, ⟨by omega, by omega, by omega, by omega, by omega, by decide⟩, by decide⟩
theorem end_bounds {n y m d : Int} (h : IsDate n y m d) (hn : n ≤ 1048575) : n ≤ lastV y 12 31 ∧ lastV y 12 31 ≤ 1048575 ∧ (lastV y 12 31 = 1048575 ∨ lastV y 12 31 - n < 366) := by
  have q := num_year h.1
  rw [h.2] at q
  have := ys_succ y; have := lp_01 y
  rw [lastV_eq, end_num]
  split
  · omega
  · omega
end Go.Proofs.YtjpiaccpcmlfnaaDoor.Cal
