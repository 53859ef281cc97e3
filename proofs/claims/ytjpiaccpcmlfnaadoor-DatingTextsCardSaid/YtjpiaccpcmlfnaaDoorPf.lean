/-
  The texts that Format writes are texts of periods. No statement of the seat is proved here.
-/
import Derived.Test.YtjpiaccpcmlfnaaDoorFmp
import Derived.Test.YtjpiaccpcmlfnaaDoorRp
import Derived.Test.YtjpiaccpcmlfnaaDoorPar2
import Derived.Test.YtjpiaccpcmlfnaaDoorAw
namespace Go.Proofs.YtjpiaccpcmlfnaaDoor
open Go.RowKit Cal
open Classical

/-- Bytes without a slash, of which the first is a digit. -/
def Clean (l : List UInt8) : Prop := (∀ c ∈ l, c ≠ 47) ∧ ∃ c t, l = c :: t ∧ 48 ≤ c.toNat ∧ c.toNat ≤ 57
theorem nb (x : Int) (h : x = 45 ∨ (48 ≤ x ∧ x ≤ 57)) : ((UInt8.ofNat x.toNat).toNat : Int) = x := by
  have h1 : x.toNat < 256 := by omega
  rw [UInt8.toNat_ofNat_of_lt' (by simpa using h1)]
  omega
theorem clean_nums (x : Int) (l : List Int) (h : ∀ y ∈ l, y = 45 ∨ (48 ≤ y ∧ y ≤ 57)) (hx : 48 ≤ x ∧ x ≤ 57) : Clean (strOfNums (x :: l)).data.toList := by
  rw [strOfNums_data]
  refine ⟨fun c hc => ?_, _, _, rfl, ?_⟩
  · obtain ⟨y, hy, rfl⟩ := List.mem_map.1 hc
    have hy2 : y = 45 ∨ (48 ≤ y ∧ y ≤ 57) := by
      rcases List.mem_cons.1 hy with g | g
      · subst g; exact Or.inr hx
      · exact h y g
    have := nb y hy2
    intro e
    rw [e] at this
    simp at this
    omega
  · have := nb x (Or.inr hx)
    show 48 ≤ (UInt8.ofNat x.toNat).toNat ∧ (UInt8.ofNat x.toNat).toNat ≤ 57
    omega
theorem clean_4 (y : Int) : Clean (strOfNums (d4 y)).data.toList := by
  refine clean_nums _ _ (fun z hz => ?_) (by omega)
  simp at hz
  rcases hz with h | h | h <;> subst h <;> omega
theorem clean_7 (y m : Int) : Clean (strOfNums (d4 y ++ [45] ++ d2 m)).data.toList := by
  refine clean_nums _ _ (fun z hz => ?_) (by omega)
  simp [d2] at hz
  rcases hz with h | h | h | h | h | h <;> subst h <;> omega
theorem clean_10 (y m d : Int) : Clean (strOfNums (txt y m d)).data.toList := by
  refine clean_nums _ _ (fun z hz => ?_) (by omega)
  simp [d2] at hz
  rcases hz with h | h | h | h | h | h | h | h | h <;> subst h <;> omega

/-- The text of a period. -/
def IsPer (s : ByteArray) : Prop := (s.size = 4 ∨ s.size = 7 ∨ s.size = 10) ∧ Clean s.data.toList ∧ perE s = 0
theorem per3 (n : Int) (h1 : 0 ≤ n) (h2 : n ≤ 1048575) : IsPer ((dayS n).extract 0 4) ∧ IsPer ((dayS n).extract 0 7) ∧ IsPer ((dayS n).extract 0 10) ∧ perF ((dayS n).extract 0 10) = n ∧ perL ((dayS n).extract 0 10) = n := by
  obtain ⟨y, m, d, h⟩ := date_exists n h1 h2
  have a := per_year h h2
  have b := per_month h h2
  have c := per_day h h2
  rw [dayS_is h]
  rw [txt_4] at a ⊢
  rw [txt_7] at b ⊢
  rw [txt_10] at c ⊢
  exact ⟨⟨Or.inl (size_d4 y), clean_4 y, a.1⟩, ⟨Or.inr (Or.inl (by rw [strOfNums_size]; rfl)), clean_7 y m, b.1⟩, ⟨Or.inr (Or.inr (txt_size y m d)), clean_10 y m d, c.1⟩, c.2⟩
theorem beg_per (n : Int) (h1 : 0 ≤ n) (h2 : n ≤ 1048575) : IsPer (begS (dayS n) n) ∧ perF (begS (dayS n) n) = n := by
  obtain ⟨a, b, c, d, e⟩ := per3 n h1 h2
  unfold begS
  by_cases g : perF ((dayS n).extract 0 4) = n
  · rw [if_pos g]; exact ⟨a, g⟩
  · rw [if_neg g]
    by_cases g' : perF ((dayS n).extract 0 7) = n
    · rw [if_pos g']; exact ⟨b, g'⟩
    · rw [if_neg g']; exact ⟨c, d⟩
theorem end_per (n : Int) (h1 : 0 ≤ n) (h2 : n ≤ 1048575) : IsPer (endS (dayS n) n) ∧ perL (endS (dayS n) n) = n := by
  obtain ⟨a, b, c, d, e⟩ := per3 n h1 h2
  unfold endS
  by_cases g : perL ((dayS n).extract 0 4) = n
  · rw [if_pos g]; exact ⟨a, g⟩
  · rw [if_neg g]
    by_cases g' : perL ((dayS n).extract 0 7) = n
    · rw [if_pos g']; exact ⟨b, g'⟩
    · rw [if_neg g']; exact ⟨c, e⟩
theorem jus_per (n a b : Int) (h1 : 0 ≤ n) (h2 : n ≤ 1048575) (h : jusB (dayS n) a b = true) : IsPer (jusS (dayS n) a b) ∧ perF (jusS (dayS n) a b) = a ∧ perL (jusS (dayS n) a b) = b := by
  obtain ⟨p, q, r, d, e⟩ := per3 n h1 h2
  unfold jusB at h
  unfold jusS
  by_cases g : perF ((dayS n).extract 0 4) = a ∧ perL ((dayS n).extract 0 4) = b
  · rw [if_pos g]; exact ⟨p, g⟩
  · rw [if_neg g] at h ⊢
    by_cases g' : perF ((dayS n).extract 0 7) = a ∧ perL ((dayS n).extract 0 7) = b
    · rw [if_pos g']; exact ⟨q, g'⟩
    · rw [if_neg g'] at h ⊢
      by_cases g'' : perF ((dayS n).extract 0 10) = a ∧ perL ((dayS n).extract 0 10) = b
      · rw [if_pos g'']; exact ⟨r, g''⟩
      · rw [if_neg g''] at h; cases h

set_option maxHeartbeats 1000000 in
theorem readUnknown_yes (w : World) : Calls Tryd.prog 60 #[.string unk] w fun e w' => e = Ans 0 1048575 0 ∧ Below w.heap.size w w' := by
  have hu : (!unk.toList == [117, 110, 107, 110, 111, 119, 110]) = false := by rw [Lib.toList_data]; rfl
  go_enter Tryd.func60, Tryd.ntmps60
  go_wp2
  refine bodyPost_ret (by simp [results, Tryd.results60, go_sem] <;> rfl) rfl ⟨rfl, by go_grown⟩
end Go.Proofs.YtjpiaccpcmlfnaaDoor
