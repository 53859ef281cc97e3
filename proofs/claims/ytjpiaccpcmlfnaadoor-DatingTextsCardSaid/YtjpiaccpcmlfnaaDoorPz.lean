/-
  Parse answers a valid dating, or an error and no dating. No statement of the seat is proved here.
-/
import Derived.Test.YtjpiaccpcmlfnaaDoorPb
namespace Go.Proofs.YtjpiaccpcmlfnaaDoor
open Go.RowKit Cal
open Classical

/-- A valid dating, or an error of form or range and nothing. -/
def GoodA (F L E : Int) : Prop := (E = 0 ∧ okD F L) ∨ ((E = 2 ∨ E = 3) ∧ F = 0 ∧ L = 0)
theorem rd_good (t : ByteArray) (h : rdE t = 0) : 0 ≤ rdF t ∧ rdF t ≤ 1048575 ∧ (rdF t ≤ rdY t ∧ rdY t ≤ 1048575) ∧ rdF t ≤ rdM t ∧ rdM t ≤ 1048575 := by
  have hE : ofE (p1 t) (p2 t) (p3 t) = 0 := by
    unfold rdE at h
    by_cases k : Shape t
    · rw [if_pos k] at h; exact h
    · rw [if_neg k] at h; omega
  obtain ⟨hd, h0, h9⟩ := of_zero hE
  obtain ⟨e1, e2, _⟩ := end_bounds hd h9
  have hl := hd.1.2.2.2.2
  unfold rdF rdY rdM
  rw [if_pos h, if_pos h, if_pos h]
  unfold mn
  refine ⟨h0, h9, ⟨e1, e2⟩, ?_⟩
  split <;> omega
theorem per_good (s : ByteArray) : GoodA (perF s) (perL s) (perE s) := by
  have key : ∀ t, (rdE t = 0 ∧ 0 ≤ rdF t ∧ rdF t ≤ 1048575 ∧ (rdF t ≤ rdY t ∧ rdY t ≤ 1048575) ∧ rdF t ≤ rdM t ∧ rdM t ≤ 1048575) ∨ ((rdE t = 2 ∨ rdE t = 3) ∧ rdF t = 0 ∧ rdY t = 0 ∧ rdM t = 0) := fun t => by
    by_cases h : rdE t = 0
    · exact Or.inl ⟨h, rd_good t h⟩
    · exact Or.inr (rdE_23 t h)
  unfold GoodA perE perF perL
  by_cases h4 : s.size = 4
  · rw [if_pos h4, if_pos h4, if_pos h4]
    rcases key (s ++ x4) with ⟨a, b, c, d, e⟩ | ⟨a, b, c, d⟩
    · exact Or.inl ⟨a, b, d.1, d.2⟩
    · exact Or.inr ⟨a, b, c⟩
  rw [if_neg h4, if_neg h4, if_neg h4]
  by_cases h7 : s.size = 7
  · rw [if_pos h7, if_pos h7, if_pos h7]
    rcases key (s ++ x7) with ⟨a, b, c, d, e⟩ | ⟨a, b, c, d⟩
    · exact Or.inl ⟨a, b, e.1, e.2⟩
    · exact Or.inr ⟨a, b, d⟩
  rw [if_neg h7, if_neg h7, if_neg h7]
  by_cases h10 : s.size = 10
  · simp only [if_pos h10]
    rcases key s with ⟨a, b, c, d, e⟩ | ⟨a, b, c, d⟩
    · exact Or.inl ⟨a, b, by omega, c⟩
    · exact Or.inr ⟨a, b, b⟩
  simp only [if_neg h10]
  exact Or.inr ⟨Or.inr (by trivial), by trivial, by trivial⟩
theorem good_if (X Y : Int) : GoodA (if okD X Y then X else 0) (if okD X Y then Y else 0) (if okD X Y then 0 else 2) := by
  by_cases h : okD X Y
  · rw [if_pos h, if_pos h, if_pos h]; exact Or.inl ⟨rfl, h⟩
  · rw [if_neg h, if_neg h, if_neg h]; exact Or.inr ⟨Or.inl rfl, rfl, rfl⟩
theorem goodA_no {F L E : Int} (h : GoodA F L E) (h0 : E ≠ 0) : GoodA 0 0 E := by
  rcases h with h | h
  · exact absurd h.1 h0
  · exact Or.inr ⟨h.1, rfl, rfl⟩

theorem word63_all (s : ByteArray) : ∃ F L E, GoodA F L E ∧ ∀ w k, Table w → w.cell? ⟨k, 0, none⟩ = some (.string beW) → w.cell? ⟨k + 1, 0, none⟩ = some (.func (.func 63) #[] #[]) → Calls Tryd.prog 77 #[.string s, .pointer (some ⟨k, 0, none⟩), .pointer (some ⟨k + 1, 0, none⟩)] w fun e w' => e = Ans F L E ∧ Below w.heap.size w w' := by
  cases hp : Lib.hasPrefix s.data.toList beW.data.toList
  · exact ⟨0, 0, 3, Or.inr ⟨Or.inr rfl, rfl, rfl⟩, fun w k _ c0 _ => word_no beW s k w c0 hp⟩
  · have g := per_good (behind beW s)
    by_cases h : perE (behind beW s) = 0
    · have g' : okD (perF (behind beW s)) (perL (behind beW s)) := by
        rcases g with g | g
        · exact g.2
        · omega
      exact ⟨_, _, _, good_if 0 (perF (behind beW s) - 1), fun w k hT c0 c1 => word_ok63 beW s k 0 (perF (behind beW s) - 1) _ _ w hT c0 c1 hp h rfl rfl (Lib.hid (fun w => rd1_is _ _ w g'.1 (by have := g'.2; omega)))⟩
    · exact ⟨0, 0, _, goodA_no g h, fun w k hT c0 _ => word_bad beW s k w hT c0 hp h⟩
theorem word64_all (s : ByteArray) : ∃ F L E, GoodA F L E ∧ ∀ w k, Table w → w.cell? ⟨k, 0, none⟩ = some (.string afW) → w.cell? ⟨k + 1, 0, none⟩ = some (.func (.func 64) #[] #[]) → Calls Tryd.prog 77 #[.string s, .pointer (some ⟨k, 0, none⟩), .pointer (some ⟨k + 1, 0, none⟩)] w fun e w' => e = Ans F L E ∧ Below w.heap.size w w' := by
  cases hp : Lib.hasPrefix s.data.toList afW.data.toList
  · exact ⟨0, 0, 3, Or.inr ⟨Or.inr rfl, rfl, rfl⟩, fun w k _ c0 _ => word_no afW s k w c0 hp⟩
  · have g := per_good (behind afW s)
    by_cases h : perE (behind afW s) = 0
    · have g' : okD (perF (behind afW s)) (perL (behind afW s)) := by
        rcases g with g | g
        · exact g.2
        · omega
      exact ⟨_, _, _, good_if (perL (behind afW s) + 1) 1048575, fun w k hT c0 c1 => word_ok64 afW s k (perL (behind afW s) + 1) 1048575 _ _ w hT c0 c1 hp h rfl rfl (Lib.hid (fun w => rd2_is _ _ w (by have := g'.1; have := g'.2; omega) g'.2.2))⟩
    · exact ⟨0, 0, _, goodA_no g h, fun w k hT c0 _ => word_bad afW s k w hT c0 hp h⟩
theorem pair_all (s : ByteArray) (hs : s.size ≤ 1000000000) : ∃ F L E, GoodA F L E ∧ ∀ w, Table w → Calls Tryd.prog 65 #[.string s] w fun e w' => e = Ans F L E ∧ Below w.heap.size w w' := by
  by_cases h3 : perE (cutA s) = 3 ∨ perE (cutB s) = 3
  · exact ⟨0, 0, 3, Or.inr ⟨Or.inr rfl, rfl, rfl⟩, fun w hT => pair_syn s _ _ _ _ _ _ w hT hs rfl rfl rfl rfl rfl rfl h3⟩
  · by_cases h0 : perE (cutA s) = 0 ∧ perE (cutB s) = 0
    · exact ⟨_, _, _, good_if (perF (cutA s)) (perL (cutB s)), fun w hT => pair_ok s _ _ _ _ _ _ w hT hs rfl rfl rfl rfl rfl rfl h0⟩
    · exact ⟨0, 0, 2, Or.inr ⟨Or.inl rfl, rfl, rfl⟩, fun w hT => pair_bad s _ _ _ _ _ _ w hT hs rfl rfl rfl rfl rfl rfl ⟨fun e => h3 (Or.inl e), fun e => h3 (Or.inr e), by omega⟩⟩

/-- What Parse answers, for any text. -/
theorem Parse_all (s : ByteArray) (hs : s.size ≤ 1000000000) : ∃ F L E, GoodA F L E ∧ ∀ w, Table w → Calls Tryd.prog 26 #[.string s] w fun e w' => e = Ans F L E ∧ Below w.heap.size w w' := by
  by_cases hu : s = unk
  · subst hu
    exact ⟨0, 1048575, 0, Or.inl ⟨rfl, by omega, by omega, by omega⟩, fun w hT => Parse_unk w hT⟩
  have C0 : ∀ w, Table w → Calls Tryd.prog 60 #[.string s] w fun e w' => e = Ans 0 0 3 ∧ Below w.heap.size w w' := fun w _ => readUnknown_no s w hu
  have C1 : ∀ w, Table w → Calls Tryd.prog 61 #[.string s] w fun e w' => e = Ans (perF s) (perL s) (perE s) ∧ Below w.heap.size w w' := fun w hT => readPeriod_any s w hT
  obtain ⟨F2, L2, E2, g2, C2⟩ := word63_all s
  obtain ⟨F3, L3, E3, g3, C3⟩ := word64_all s
  obtain ⟨F4, L4, E4, g4, C4⟩ := pair_all s hs
  by_cases h1 : perE s = 3
  · by_cases h2 : E2 = 3
    · by_cases h3 : E3 = 3
      · by_cases h4 : E4 = 3
        · exact ⟨0, 0, 3, Or.inr ⟨Or.inr rfl, rfl, rfl⟩, fun w hT => Parse_none s _ _ _ _ _ _ _ _ _ _ _ _ _ _ _ w hT C0 C1 C2 C3 C4 rfl h1 h2 h3 h4⟩
        · exact ⟨_, _, _, g4, fun w hT => Parse_at4 s _ _ _ _ _ _ _ _ _ _ _ _ _ _ _ w hT C0 C1 C2 C3 C4 rfl h1 h2 h3 h4⟩
      · exact ⟨_, _, _, g3, fun w hT => Parse_at3 s _ _ _ _ _ _ _ _ _ _ _ _ w hT C0 C1 C2 C3 rfl h1 h2 h3⟩
    · exact ⟨_, _, _, g2, fun w hT => Parse_at2 s _ _ _ _ _ _ _ _ _ w hT C0 C1 C2 rfl h1 h2⟩
  · exact ⟨_, _, _, per_good s, fun w hT => Parse_at1 s _ _ _ _ _ _ w hT C0 C1 rfl h1⟩
end Go.Proofs.YtjpiaccpcmlfnaaDoor
