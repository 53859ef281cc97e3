/-
  What an office is checked for by itself. No statement of the seat is proved here.
-/
import Derived.Test.YtchaihdbljkphaaBy
namespace Go.Proofs.Ytchaihdbljkphaa
open Go Go.RowKit Go.Maps

theorem slf_cases (x : Off) : (slfE x = 2 ∧ ((decide (1 ≤ x.id) && decide (x.id ≤ 1073741824)) = false ∨ decide (spn x.fr x.un) = false ∨ decide ((x.nx.length : Int) > 8) = true)) ∨
    ((decide (1 ≤ x.id) && decide (x.id ≤ 1073741824)) = true ∧ decide (spn x.fr x.un) = true ∧ decide ((x.nx.length : Int) > 8) = false ∧ ((nameB (bs x.nm) = false ∧ slfE x = 4) ∨ (nameB (bs x.nm) = true ∧ slfE x = 0))) := by
  unfold slfE
  by_cases h : 1 ≤ x.id ∧ x.id ≤ 1073741824 ∧ 0 ≤ x.fr ∧ x.fr < x.un ∧ x.un ≤ 1048576 ∧ x.nx.length ≤ 8
  · right
    rw [if_neg (fun k => k h)]
    obtain ⟨a1, a2, a3, a4, a5, a6⟩ := h
    refine ⟨by simp [a1, a2], decide_eq_true ⟨a3, a4, a5⟩, decide_eq_false (by omega), ?_⟩
    cases e : nameB (bs x.nm) with
    | false => exact Or.inl ⟨rfl, by simp⟩
    | true => exact Or.inr ⟨rfl, by simp⟩
  · left
    rw [if_pos h]
    refine ⟨rfl, ?_⟩
    by_cases k1 : (decide (1 ≤ x.id) && decide (x.id ≤ 1073741824)) = true
    · by_cases k2 : spn x.fr x.un
      · right; right
        simp only [Bool.and_eq_true, decide_eq_true_eq] at k1
        exact decide_eq_true (by
          have : ¬ x.nx.length ≤ 8 := fun k3 => h ⟨k1.1, k1.2, k2.1, k2.2.1, k2.2.2, k3⟩
          omega)
      · right; left; exact decide_eq_false k2
    · left; simpa using k1

set_option maxRecDepth 100000 in
set_option maxHeartbeats 4000000 in
theorem Self_any (x : Off) (w : World) (hE : Env w) (hF : FitO x) :
    Calls Try.prog 47 #[.agg #[.int .i64 x.id, .string x.nm, .int .i64 x.fr, .int .i64 x.un, .slice x.np x.nx.length x.nc]] w fun e w' => e = .returned (.int .i64 (slfE x)) ∧ Below w.heap.size w w' := by
  obtain ⟨B1, h1⟩ : ∃ B, (decide (1 ≤ x.id) && decide (x.id ≤ 1073741824)) = B := ⟨_, rfl⟩
  obtain ⟨B2, h2⟩ : ∃ B, decide (spn x.fr x.un) = B := ⟨_, rfl⟩
  obtain ⟨B3, h3⟩ : ∃ B, decide ((x.nx.length : Int) > 8) = B := ⟨_, rfl⟩
  obtain ⟨B4, h4⟩ : ∃ B, nameB (bs x.nm) = B := ⟨_, rfl⟩
  obtain ⟨R, hR⟩ : ∃ R, slfE x = R := ⟨_, rfl⟩
  have C1 := Lib.hid (fun v => IsID_any x.id v)
  have C2 := Lib.hid (fun v => Valid_any x.fr x.un v)
  have C4 := Lib.hid (fun v h => Name_any x.nm v (hE.below h) hF.2.2.2.2.2)
  have SC := slf_cases x
  rw [h1, h2, h3, h4, hR] at SC
  rw [hR]
  simp only [h1] at C1
  simp only [h2] at C2
  simp only [h4] at C4
  have SC := Lib.hid SC
  obtain ⟨m, hm⟩ : ∃ m, x.nx.length = m := ⟨_, rfl⟩
  rw [hm] at h3 ⊢
  have h3' : decide (8 < m) = B3 := by rw [← h3]; exact decide_eq_decide.2 (by omega)
  have Hm := Lib.hid hm
  clear h1 h2 h4 hR hE hF hm
  have B0 : Hid (Below w.heap.size w (w.alloc (.cells #[.int .i64 x.id, .string x.nm, .int .i64 x.fr, .int .i64 x.un, .slice x.np m x.nc] 43))) := (Below.refl _ _).alloc (Nat.le_refl _) _
  go_enter Try.func47, Try.ntmps47
  go_wp2_with fail
  refine (C1.out _).mono ?_
  rintro e w1 ⟨rfl, rfl⟩
  cases B1 with
  | false =>
    have E : R = 2 := by
      rcases SC.out with ⟨h, _⟩ | ⟨h, _⟩
      · exact h
      · cases h
    subst E
    go_wp2_with fail
    go_ret
    exact ⟨rfl, B0.out⟩
  | true =>
  go_wp2_with fail
  refine (C2.out _).mono ?_
  rintro e w2 ⟨rfl, hb⟩
  have B2' := Lib.hid (B0.out.trans (hb.mono B0.out.size))
  have ON := off_new w x 43
  rw [Hm.out] at ON
  have X2 := Lib.hid (ON.next hb)
  clear ON
  clear hb
  cases B2 with
  | false =>
    have E : R = 2 := by
      rcases SC.out with ⟨h, _⟩ | ⟨_, h, _⟩
      · exact h
      · cases h
    subst E
    go_wp2_with fail
    go_ret
    exact ⟨rfl, B2'.out⟩
  | true =>
  have q4 := X2.out.2.2.2.2
  have q1 := X2.out.2.1
  rw [Hm.out] at q4
  have zb := X2.out.lt
  cases B3 with
  | true =>
    have E : R = 2 := by
      rcases SC.out with ⟨h, _⟩ | ⟨_, _, h, _⟩
      · exact h
      · cases h
    subst E
    go_wp2_with fail
    go_ret
    exact ⟨rfl, B2'.out⟩
  | false =>
  go_wp2_with fail
  refine (C4.out _ B2'.out).mono ?_
  rintro e w3 ⟨rfl, rfl⟩
  cases B4 with
  | true =>
    have E : R = 0 := by
      rcases SC.out with ⟨_, h | h | h⟩ | ⟨_, _, _, ⟨h, _⟩ | ⟨_, h⟩⟩ <;> first | exact h | cases h
    subst E
    go_wp2_with fail
    go_ret
    exact ⟨rfl, B2'.out⟩
  | false =>
    have E : R = 4 := by
      rcases SC.out with ⟨_, h | h | h⟩ | ⟨_, _, _, ⟨_, h⟩ | ⟨h, _⟩⟩ <;> first | exact h | cases h
    subst E
    go_wp2_with fail
    go_ret
    exact ⟨rfl, B2'.out⟩

end Go.Proofs.Ytchaihdbljkphaa
