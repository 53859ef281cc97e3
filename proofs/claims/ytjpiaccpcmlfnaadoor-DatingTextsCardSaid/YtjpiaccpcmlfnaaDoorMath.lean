/-
  The plain arithmetic of the Gregorian calendar from 1600 on: days before a year, days before a month, and that each day has exactly one date. No program is named here.
-/
namespace Go.Proofs.YtjpiaccpcmlfnaaDoor.Cal

/-- 1 in a leap year, else 0. -/
def lp (y : Int) : Int := if (y % 4 = 0 ∧ y % 100 ≠ 0) ∨ y % 400 = 0 then 1 else 0
/-- The days before a year. -/
def ys (y : Int) : Int := 365 * (y - 1600) + (y - 1600 + 3) / 4 - (y - 1600 + 99) / 100 + (y - 1600 + 399) / 400
/-- The lengths of the months of a year that is no leap year. -/
def tab : List Int := [31, 28, 31, 30, 31, 30, 31, 31, 30, 31, 30, 31]
def ml (m : Int) : Int := tab.getD (m - 1).toNat 0
/-- The length of a month, 0 where there is none. -/
def len (y m : Int) : Int := if 1600 ≤ y ∧ y ≤ 4470 ∧ 1 ≤ m ∧ m ≤ 12 then ml m + (if m = 2 then lp y else 0) else 0
/-- The days of a year before a month. -/
def c0 (m : Int) : Int := [0, 31, 59, 90, 120, 151, 181, 212, 243, 273, 304, 334, 365].getD (m - 1).toNat 0
def cum (y m : Int) : Int := c0 m + (if 3 ≤ m then lp y else 0)
/-- The day of a date. -/
def num (y m d : Int) : Int := ys y + cum y m + d - 1
/-- There is such a date. -/
def Valid (y m d : Int) : Prop := 1600 ≤ y ∧ y ≤ 4470 ∧ 1 ≤ m ∧ m ≤ 12 ∧ 1 ≤ d ∧ d ≤ len y m
/-- Day n has this date. -/
def IsDate (n y m d : Int) : Prop := Valid y m d ∧ num y m d = n

theorem lp_01 (y : Int) : 0 ≤ lp y ∧ lp y ≤ 1 := by unfold lp; split <;> omega
theorem lp_pos {y : Int} (h : (y % 4 = 0 ∧ y % 100 ≠ 0) ∨ y % 400 = 0) : lp y = 1 := if_pos h
theorem lp_neg {y : Int} (h : ¬ ((y % 4 = 0 ∧ y % 100 ≠ 0) ∨ y % 400 = 0)) : lp y = 0 := if_neg h
theorem ys_succ (y : Int) : ys (y + 1) = ys y + 365 + lp y := by
  unfold ys lp
  split <;> omega
theorem ys_400 (y : Int) : ys (y + 400) = ys y + 146097 := by unfold ys; omega
theorem lp_400 (y : Int) : lp (y + 400) = lp y := by
  unfold lp
  by_cases h : (y % 4 = 0 ∧ y % 100 ≠ 0) ∨ y % 400 = 0
  · rw [if_pos h, if_pos (by omega)]
  · rw [if_neg h, if_neg (by omega)]
theorem ys_mono (a b : Int) (h : a ≤ b) : ys a + 365 * (b - a) ≤ ys b := by unfold ys; omega
theorem ys_upper (a b : Int) (h : a ≤ b) : ys b ≤ ys a + 366 * (b - a) := by unfold ys; omega
theorem ys_1600 : ys 1600 = 0 := by decide
theorem ys_4471 : ys 4471 = 1048612 := by decide
theorem ys_bd (y : Int) (h : 1600 ≤ y) (h' : y ≤ 4471) : 0 ≤ ys y ∧ ys y ≤ 1048612 := by
  have a := ys_mono 1600 y h; have b := ys_mono y 4471 h'; rw [ys_1600] at a; rw [ys_4471] at b; omega

/-- A month is one of twelve. -/
theorem months {m : Int} (h1 : 1 ≤ m) (h2 : m ≤ 12) : m = 1 ∨ m = 2 ∨ m = 3 ∨ m = 4 ∨ m = 5 ∨ m = 6 ∨ m = 7 ∨ m = 8 ∨ m = 9 ∨ m = 10 ∨ m = 11 ∨ m = 12 := by omega
theorem ml_bd (m : Int) (h1 : 1 ≤ m) (h2 : m ≤ 12) : 28 ≤ ml m ∧ ml m ≤ 31 := by
  rcases months h1 h2 with h | h | h | h | h | h | h | h | h | h | h | h <;> subst h <;> decide
theorem ml_two : ml 2 = 28 := by decide
theorem c0_succ (m : Int) (h1 : 1 ≤ m) (h2 : m ≤ 12) : c0 (m + 1) = c0 m + ml m := by
  rcases months h1 h2 with h | h | h | h | h | h | h | h | h | h | h | h <;> subst h <;> decide
theorem c0_bd (m : Int) (h1 : 1 ≤ m) (h2 : m ≤ 13) : 0 ≤ c0 m ∧ c0 m ≤ 365 := by
  have : m = 13 ∨ (1 ≤ m ∧ m ≤ 12) := by omega
  rcases this with h | ⟨h1, h2⟩
  · subst h; decide
  · rcases months h1 h2 with h | h | h | h | h | h | h | h | h | h | h | h <;> subst h <;> decide
theorem c0_one : c0 1 = 0 := by decide
theorem c0_12 : c0 12 = 334 := by decide
theorem c0_13 : c0 13 = 365 := by decide

theorem len_in (y m : Int) (a : 1600 ≤ y) (b : y ≤ 4470) (c : 1 ≤ m) (d : m ≤ 12) : len y m = ml m + (if m = 2 then lp y else 0) := if_pos ⟨a, b, c, d⟩
theorem len_out (y m : Int) (h : ¬ (1600 ≤ y ∧ y ≤ 4470 ∧ 1 ≤ m ∧ m ≤ 12)) : len y m = 0 := if_neg h
theorem len_bd (y m : Int) : 0 ≤ len y m ∧ len y m ≤ 31 := by
  by_cases h : 1600 ≤ y ∧ y ≤ 4470 ∧ 1 ≤ m ∧ m ≤ 12
  · obtain ⟨a, b, c, d⟩ := h
    rw [len_in y m a b c d]
    have := lp_01 y
    by_cases e : m = 2
    · subst e; rw [ml_two, if_pos rfl]; omega
    · have := ml_bd m c d; rw [if_neg e]; omega
  · rw [len_out y m h]; omega
theorem len_lo (y m : Int) (a : 1600 ≤ y) (b : y ≤ 4470) (c : 1 ≤ m) (d : m ≤ 12) : 28 ≤ len y m := by
  rw [len_in y m a b c d]
  have := lp_01 y; have := ml_bd m c d
  split <;> omega
theorem of_len {y m d : Int} (h1 : 1 ≤ d) (h2 : d ≤ len y m) : 1600 ≤ y ∧ y ≤ 4470 ∧ 1 ≤ m ∧ m ≤ 12 := by
  by_cases h : 1600 ≤ y ∧ y ≤ 4470 ∧ 1 ≤ m ∧ m ≤ 12
  · exact h
  · rw [len_out y m h] at h2; omega
theorem cum_succ (y m : Int) (a : 1600 ≤ y) (b : y ≤ 4470) (c : 1 ≤ m) (d : m ≤ 12) : cum y (m + 1) = cum y m + len y m := by
  rw [len_in y m a b c d]
  unfold cum
  rw [c0_succ m c d]
  by_cases e : m = 2
  · subst e; simp; omega
  · by_cases f : 3 ≤ m
    · rw [if_pos (by omega), if_pos f, if_neg e]; omega
    · rw [if_neg (by omega), if_neg f, if_neg e]; omega
theorem cum_one (y : Int) : cum y 1 = 0 := by unfold cum; rw [c0_one]; simp
theorem cum_13 (y : Int) : cum y 13 = 365 + lp y := by unfold cum; rw [c0_13]; simp
theorem cum_12 (y : Int) : cum y 12 = 334 + lp y := by unfold cum; rw [c0_12]; simp
theorem cum_bd (y m : Int) (h1 : 1 ≤ m) (h2 : m ≤ 13) : 0 ≤ cum y m ∧ cum y m ≤ 366 := by
  unfold cum
  have := c0_bd m h1 h2; have := lp_01 y
  split <;> omega
/-- The days before a month grow. -/
theorem cum_mono (y m : Int) (a : 1600 ≤ y) (b : y ≤ 4470) (h1 : 1 ≤ m) : ∀ k : Nat, m + k ≤ 13 → cum y m ≤ cum y (m + k) := by
  intro k
  induction k with
  | zero => intro _; simp
  | succ k ih =>
    intro h
    have := ih (by omega)
    have e := cum_succ y (m + k) a b (by omega) (by omega)
    have := (len_bd y (m + k)).1
    rw [show m + ((k + 1 : Nat) : Int) = m + k + 1 from by omega]
    omega
theorem cum_le (y m m' : Int) (a : 1600 ≤ y) (b : y ≤ 4470) (h1 : 1 ≤ m) (h : m ≤ m') (h2 : m' ≤ 13) : cum y m ≤ cum y m' := by
  have := cum_mono y m a b h1 (m' - m).toNat (by omega)
  rw [show m + ((m' - m).toNat : Int) = m' from by omega] at this
  exact this
/-- A date lies in its year. -/
theorem num_year {y m d : Int} (h : Valid y m d) : ys y ≤ num y m d ∧ num y m d < ys (y + 1) := by
  obtain ⟨a, b, c, e, f, g⟩ := h
  have h1 := cum_bd y m c (by omega)
  have h2 := cum_succ y m a b c e
  have h3 := cum_le y (m + 1) 13 a b (by omega) (by omega) (by omega)
  rw [cum_13] at h3
  have h4 := ys_succ y
  unfold num
  omega
theorem num_bd {y m d : Int} (h : Valid y m d) : 0 ≤ num y m d ∧ num y m d ≤ 1048611 := by
  have := num_year h
  obtain ⟨a, b, _⟩ := h
  have := ys_bd y a (by omega); have := ys_bd (y + 1) (by omega) (by omega)
  omega
/-- One day has one date. -/
theorem date_unique {n y m d y' m' d' : Int} (h : IsDate n y m d) (h' : IsDate n y' m' d') : y = y' ∧ m = m' ∧ d = d' := by
  obtain ⟨v, e⟩ := h
  obtain ⟨v', e'⟩ := h'
  have a := num_year v; have a' := num_year v'
  have hy : y = y' := by
    rcases Int.lt_trichotomy y y' with l | l | l
    · have := ys_mono (y + 1) y' (by omega); omega
    · exact l
    · have := ys_mono (y' + 1) y (by omega); omega
  subst hy
  obtain ⟨b1, b2, b3, b4, b5, b6⟩ := v
  obtain ⟨_, _, c3, c4, c5, c6⟩ := v'
  have s := cum_succ y m b1 b2 b3 b4; have s' := cum_succ y m' b1 b2 c3 c4
  have hm : m = m' := by
    unfold num at e e'
    rcases Int.lt_trichotomy m m' with l | l | l
    · have := cum_le y (m + 1) m' b1 b2 (by omega) (by omega) (by omega); omega
    · exact l
    · have := cum_le y (m' + 1) m b1 b2 (by omega) (by omega) (by omega); omega
  subst hm
  refine ⟨rfl, rfl, ?_⟩
  unfold num at e e'
  omega
theorem find_year (n : Int) (h0 : 0 ≤ n) (h1 : n ≤ 1048575) : ∃ y, 1600 ≤ y ∧ y ≤ 4470 ∧ ys y ≤ n ∧ n < ys (y + 1) := by
  have key : ∀ k : Nat, k ≤ 2871 → ys (1600 + k) ≤ n ∨ ∃ y, 1600 ≤ y ∧ y ≤ 4470 ∧ ys y ≤ n ∧ n < ys (y + 1) := by
    intro k
    induction k with
    | zero => intro _; left; rw [show (1600 : Int) + ((0 : Nat) : Int) = 1600 from rfl, ys_1600]; exact h0
    | succ k ih =>
      intro hk
      rcases ih (by omega) with h | h
      · by_cases c : ys (1600 + ((k + 1 : Nat) : Int)) ≤ n
        · exact Or.inl c
        · refine Or.inr ⟨1600 + k, by omega, by omega, h, ?_⟩
          rw [show (1600 : Int) + k + 1 = 1600 + ((k + 1 : Nat) : Int) from by omega]
          omega
      · exact Or.inr h
  rcases key 2871 (by omega) with h | h
  · rw [show (1600 : Int) + ((2871 : Nat) : Int) = 4471 from rfl, ys_4471] at h; omega
  · exact h
theorem find_month (y r : Int) (h0 : 0 ≤ r) (h1 : r < 365 + lp y) : ∃ m, 1 ≤ m ∧ m ≤ 12 ∧ cum y m ≤ r ∧ r < cum y (m + 1) := by
  have key : ∀ k : Nat, k ≤ 12 → cum y (1 + k) ≤ r ∨ ∃ m, 1 ≤ m ∧ m ≤ 12 ∧ cum y m ≤ r ∧ r < cum y (m + 1) := by
    intro k
    induction k with
    | zero => intro _; left; rw [show (1 : Int) + ((0 : Nat) : Int) = 1 from rfl, cum_one]; exact h0
    | succ k ih =>
      intro hk
      rcases ih (by omega) with h | h
      · by_cases c : cum y (1 + ((k + 1 : Nat) : Int)) ≤ r
        · exact Or.inl c
        · refine Or.inr ⟨1 + k, by omega, by omega, h, ?_⟩
          rw [show (1 : Int) + k + 1 = 1 + ((k + 1 : Nat) : Int) from by omega]
          omega
      · exact Or.inr h
  rcases key 12 (by omega) with h | h
  · rw [show (1 : Int) + ((12 : Nat) : Int) = 13 from rfl, cum_13] at h; omega
  · exact h
/-- Each day has a date. -/
theorem date_exists (n : Int) (h0 : 0 ≤ n) (h1 : n ≤ 1048575) : ∃ y m d, IsDate n y m d := by
  obtain ⟨y, a, b, c, e⟩ := find_year n h0 h1
  have hs := ys_succ y
  obtain ⟨m, f, g, h, k⟩ := find_month y (n - ys y) (by omega) (by omega)
  have := cum_succ y m a b f g
  exact ⟨y, m, n - ys y - cum y m + 1, ⟨a, b, f, g, by omega, by omega⟩, by unfold num; omega⟩
/-- The first guess of the year is not too late. -/
theorem guess (n : Int) (h0 : 0 ≤ n) : ys (1600 + n / 366) ≤ n := by unfold ys; omega

/-- What Of answers: the day of a date, and the error. -/
def ofV (y m d : Int) : Int := if 1 ≤ d ∧ d ≤ len y m ∧ num y m d ≤ 1048575 then num y m d else 0
def ofE (y m d : Int) : Int := if 1 ≤ d ∧ d ≤ len y m ∧ num y m d ≤ 1048575 then 0 else 2
/-- A date that is not behind the last day. -/
def lastV (y m d : Int) : Int := if num y m d ≤ 1048575 then num y m d else 1048575
theorem of_yes {y m d : Int} (a : 1 ≤ d) (b : d ≤ len y m) (c : num y m d ≤ 1048575) : ofV y m d = num y m d ∧ ofE y m d = 0 := ⟨if_pos ⟨a, b, c⟩, if_pos ⟨a, b, c⟩⟩
theorem of_no {y m d : Int} (h : ¬ (1 ≤ d ∧ d ≤ len y m ∧ num y m d ≤ 1048575)) : ofV y m d = 0 ∧ ofE y m d = 2 := ⟨if_neg h, if_neg h⟩
/-- The day of the month, so many years later. -/
def day28 (y m d n : Int) : Int := if m = 2 ∧ d = 29 ∧ lp (y + n) = 0 then 28 else d
end Go.Proofs.YtjpiaccpcmlfnaaDoor.Cal
