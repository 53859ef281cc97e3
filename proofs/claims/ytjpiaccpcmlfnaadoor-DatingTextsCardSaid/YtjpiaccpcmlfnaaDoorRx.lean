/-
  PROVED HERE: the law archivumlaw03.DatingTexts answers true for every dating and text: Format and Parse return what the reference returns. No condition. Every input is spoken of.
-/
import Derived.Test.YtjpiaccpcmlfnaaDoorRi
import Derived.Test.YtjpiaccpcmlfnaaDoorRg2
import Derived.Test.YtjpiaccpcmlfnaaDoorPz
import Derived.Test.YtjpiaccpcmlfnaaDoorKit
import Derived.Test.YtjpiaccpcmlfnaaDoorLk
namespace Go.Proofs.YtjpiaccpcmlfnaaDoor
open Go.ChangeShapes Go.WideShapes Go.ChangeAt Go.RowKit Go.Joins Cal
open Go.ChangeMaps (open_string)
open Classical

theorem tenB (s : ByteArray) (h : s.size = 10) : ∃ a b c d e f g i j k, s.data.toList = [a, b, c, d, e, f, g, i, j, k] := by
  have hl : s.data.toList.length = 10 := by rw [Array.length_toList]; exact h
  match e : s.data.toList, hl with
  | [a, b, c, d, e', f, g, i, j, k], _ => exact ⟨a, b, c, d, e', f, g, i, j, k, rfl⟩
theorem ok_no47 {l : List UInt8} (h : okL l = true) : ∀ c ∈ l, c ≠ 47 := by
  intro c hc e
  have := okL_mem h hc
  rw [e] at this
  have e47 : ((47 : UInt8).toNat : Int) = 47 := rfl
  omega
theorem dash_no47 {c : UInt8} (h : (c.toNat : Int) = 45) : c ≠ 47 := by
  intro e
  rw [e] at h
  have e47 : ((47 : UInt8).toNat : Int) = 47 := rfl
  omega
/-- What is read as a period, or as a day that there is not, begins with a digit and has no slash. -/
theorem clean_of {x : ByteArray} (h : perE x ≠ 3) : Clean x.data.toList := by
  unfold perE at h
  have first : ∀ {a b c d : UInt8}, okL [a, b, c, d] = true → 48 ≤ a.toNat ∧ a.toNat ≤ 57 := by
    intro a b c d o
    have := okL_mem o (c := a) (by simp)
    omega
  by_cases h4 : x.size = 4
  · rw [if_pos h4] at h
    obtain ⟨a, b, c, d, hl⟩ := four x h4
    obtain ⟨hs, _⟩ := shape_x4 hl
    have o : okL [a, b, c, d] = true := by
      by_cases k : Shape (x ++ x4)
      · exact hs.1 k
      · exact absurd (by unfold rdE; rw [if_neg k]) h
    rw [hl]
    exact ⟨ok_no47 o, a, [b, c, d], rfl, first o⟩
  rw [if_neg h4] at h
  by_cases h7 : x.size = 7
  · rw [if_pos h7] at h
    obtain ⟨a, b, c, d, e, f, g, hl⟩ := seven x h7
    obtain ⟨hs, _⟩ := shape_x7 hl
    have o : (e.toNat : Int) = 45 ∧ okL [a, b, c, d] = true ∧ okL [f, g] = true := by
      by_cases k : Shape (x ++ x7)
      · exact hs.1 k
      · exact absurd (by unfold rdE; rw [if_neg k]) h
    rw [hl]
    refine ⟨?_, a, _, rfl, first o.2.1⟩
    intro q hq
    rcases List.mem_append.1 (show q ∈ [a, b, c, d] ++ ([e] ++ [f, g]) from hq) with k | k
    · exact ok_no47 o.2.1 q k
    · rcases List.mem_append.1 k with k | k
      · rw [List.mem_singleton.1 k]; exact dash_no47 o.1
      · exact ok_no47 o.2.2 q k
  rw [if_neg h7] at h
  by_cases h10 : x.size = 10
  · rw [if_pos h10] at h
    obtain ⟨a, b, c, d, e, f, g, i, j, k, hl⟩ := tenB x h10
    obtain ⟨hs, _⟩ := shape10 hl
    have o : (e.toNat : Int) = 45 ∧ (i.toNat : Int) = 45 ∧ okL [a, b, c, d] = true ∧ okL [f, g] = true ∧ okL [j, k] = true := by
      by_cases hk : Shape x
      · exact hs.1 hk
      · exact absurd (by unfold rdE; rw [if_neg hk]) h
    rw [hl]
    refine ⟨?_, a, _, rfl, first o.2.2.1⟩
    intro q hq
    rcases List.mem_append.1 (show q ∈ [a, b, c, d] ++ ([e] ++ ([f, g] ++ ([i] ++ [j, k]))) from hq) with z | z
    · exact ok_no47 o.2.2.1 q z
    rcases List.mem_append.1 z with z | z
    · rw [List.mem_singleton.1 z]; exact dash_no47 o.1
    rcases List.mem_append.1 z with z | z
    · exact ok_no47 o.2.2.2.1 q z
    rcases List.mem_append.1 z with z | z
    · rw [List.mem_singleton.1 z]; exact dash_no47 o.2.1
    · exact ok_no47 o.2.2.2.2 q z
  · rw [if_neg h10] at h
    exact absurd rfl h
theorem per3_first {x : ByteArray} (h : ∀ c t, x.data.toList = c :: t → ¬ (48 ≤ c.toNat ∧ c.toNat ≤ 57)) : perE x = 3 := by
  by_cases k : perE x = 3
  · exact k
  · obtain ⟨_, c, t, e, d⟩ := clean_of k
    exact absurd d (h c t e)
theorem per3_slash {x : ByteArray} (h : (47 : UInt8) ∈ x.data.toList) : perE x = 3 := by
  by_cases k : perE x = 3
  · exact k
  · exact absurd rfl ((clean_of k).1 47 h)
theorem per3_zero {x : ByteArray} (h : perE x = 3) : perF x = 0 ∧ perL x = 0 := by
  rcases per_good x with g | g
  · omega
  · exact g.2
theorem per_023 (x : ByteArray) : perE x = 0 ∨ perE x = 2 ∨ perE x = 3 := by
  rcases per_good x with g | g
  · exact .inl g.1
  · exact .inr g.1

/-! ### slashes -/
theorem ib47_cons (b : UInt8) (l : List UInt8) : Lib.indexByte (b :: l) 47 = if b = 47 then 0 else if Lib.indexByte l 47 = -1 then -1 else Lib.indexByte l 47 + 1 := by
  rw [Lib.indexByte]
  by_cases hb : b = 47
  · simp [hb]
  · rw [if_neg (by simpa using hb), if_neg hb]
    by_cases h : Lib.indexByte l 47 = -1
    · rw [if_pos h]; simp [h]
    · rw [if_neg h, if_neg (by simpa using h)]
theorem ib47_no {l : List UInt8} (h : Lib.indexByte l 47 = -1) : ∀ c ∈ l, c ≠ 47 := by
  induction l with
  | nil => intro c hc; cases hc
  | cons b l ih =>
    rw [ib47_cons] at h
    have g := Lib.indexByte_ge l 47
    by_cases hb : b = 47
    · rw [if_pos hb] at h; cases h
    · rw [if_neg hb] at h
      by_cases hl : Lib.indexByte l 47 = -1
      · intro c hc
        rcases List.mem_cons.1 hc with rfl | hc
        · exact hb
        · exact ih hl c hc
      · rw [if_neg hl] at h; omega
theorem ib47_at {l : List UInt8} {k : Nat} (h : Lib.indexByte l 47 = (k : Int)) : k < l.length ∧ (∀ c ∈ l.take k, c ≠ 47) ∧ l = l.take k ++ 47 :: l.drop (k + 1) := by
  induction l generalizing k with
  | nil => simp [Lib.indexByte] at h
  | cons b l ih =>
    rw [ib47_cons] at h
    have g := Lib.indexByte_ge l 47
    by_cases hb : b = 47
    · rw [if_pos hb] at h
      obtain rfl : k = 0 := by omega
      subst hb
      refine ⟨by simp, by simp, by simp⟩
    · rw [if_neg hb] at h
      by_cases hl : Lib.indexByte l 47 = -1
      · rw [if_pos hl] at h; omega
      · rw [if_neg hl] at h
        obtain ⟨j, rfl⟩ : ∃ j, k = j + 1 := ⟨k - 1, by omega⟩
        obtain ⟨h1, h2, h3⟩ := ih (k := j) (by omega)
        refine ⟨by simp; omega, ?_, ?_⟩
        · intro c hc
          rw [List.take_succ_cons] at hc
          rcases List.mem_cons.1 hc with rfl | hc
          · exact hb
          · exact h2 c hc
        · rw [List.take_succ_cons, List.drop_succ_cons, List.cons_append, ← h3]
theorem byte_at (s : ByteArray) (k : Nat) (h : k < s.size) : s.data.toList[k]'(by rw [Array.length_toList]; exact h) = s[k] := rfl

/-! ### the words -/
theorem pre_iff (s p : ByteArray) : Lib.hasPrefix s.data.toList p.data.toList = true ↔ p.data.toList <+: s.data.toList := by
  unfold Lib.hasPrefix
  exact List.isPrefixOf_iff_prefix
theorem pre_cut {s p : ByteArray} (h : Lib.hasPrefix s.data.toList p.data.toList = true) : p.size ≤ s.size ∧ (s.extract 0 p.size).data.toList = p.data.toList ∧ behind p s = s.extract p.size s.size := by
  have hp := (pre_iff s p).1 h
  have hl := hp.length_le
  rw [Array.length_toList, Array.length_toList] at hl
  refine ⟨hl, ?_, ?_⟩
  · rw [Lib.extract_data, List.drop_zero]
    have := List.prefix_iff_eq_take.1 hp
    rw [Array.length_toList] at this
    rw [show p.size = p.data.size from rfl]
    simpa using this.symm
  · unfold behind Lib.trimPrefix
    rw [if_pos h]
    apply ByteArray.ext
    apply Array.toList_inj.1
    rw [Lib.extract_data, List.toList_toArray]
    have e1 : s.data.toList.length = s.size := Array.length_toList
    have e2 : p.data.toList.length = p.size := Array.length_toList
    rw [List.take_of_length_le (by rw [List.length_drop, e1]; exact Nat.le_refl _), e2]
theorem pre_of {s p : ByteArray} (h : (s.extract 0 p.size).data.toList = p.data.toList) : Lib.hasPrefix s.data.toList p.data.toList = true := by
  rw [pre_iff, ← h, Lib.extract_data, List.drop_zero]
  exact List.take_prefix _ _

/-- What both Parses answer. -/
def Both (s : ByteArray) : Prop := ∃ F L E, (∀ w, Table w → Calls Tryd.prog 26 #[.string s] w fun e w' => e = Ans F L E ∧ Below w.heap.size w w') ∧ ∀ w, Calls Tryd.prog 27 #[.string s] w fun e w' => e = Ans F L E ∧ Below w.heap.size w w'

theorem both_unk : Both unk := ⟨0, 1048575, 0, fun w hT => Parse_unk w hT, fun w => refParse_unk w⟩

section
variable (s : ByteArray) (hu : s ≠ unk) (hs : s.size ≤ 60)
include hu
theorem uk_of : (s.toList == [117, 110, 107, 110, 111, 119, 110]) = false := by
  rw [beq_eq_false_iff_ne]
  intro e
  apply hu
  apply ByteArray.ext
  apply Array.toList_inj.1
  rw [ByteArray.toList_eq] at e
  exact e
theorem c0_of : ∀ w, Table w → Calls Tryd.prog 60 #[.string s] w fun e w' => e = Ans 0 0 3 ∧ Below w.heap.size w w' := fun w _ => readUnknown_no s w hu
omit hu in
theorem c1_of (h : perE s = 3) : ∀ w, Table w → Calls Tryd.prog 61 #[.string s] w fun e w' => e = Ans 0 0 3 ∧ Below w.heap.size w w' := fun w hT => by
  have := readPeriod_any s w hT
  rw [h, (per3_zero h).1, (per3_zero h).2] at this
  exact this
end

theorem per_lim (x : ByteArray) : 0 ≤ perF x ∧ perF x ≤ 1048575 ∧ 0 ≤ perL x ∧ perL x ≤ 1048575 := by
  rcases per_good x with g | g
  · obtain ⟨a, b, c⟩ := g.2; omega
  · omega
theorem be_size : beW.size = 7 := by decide +kernel
theorem af_size : afW.size = 6 := by decide +kernel
theorem be_list : beW.data.toList = [98, 101, 102, 111, 114, 101, 32] := by decide +kernel
theorem af_list : afW.data.toList = [97, 102, 116, 101, 114, 32] := by decide +kernel
/-- A text that begins with no digit. -/
def NoDig (x : ByteArray) : Prop := ∀ c t, x.data.toList = c :: t → ¬ (48 ≤ c.toNat ∧ c.toNat ≤ 57)
theorem nodig_pre {s p : ByteArray} {c : UInt8} {t : List UInt8} (h : Lib.hasPrefix s.data.toList p.data.toList = true) (hp : p.data.toList = c :: t) (hc : 57 < c.toNat) : NoDig s := by
  obtain ⟨u, e⟩ := (pre_iff s p).1 h
  rw [hp] at e
  intro d v hv
  rw [← e, List.cons_append] at hv
  have := (List.cons.inj hv).1
  subst this
  omega
theorem nodig_cut {s : ByteArray} (h : NoDig s) (i : Nat) : NoDig (s.extract 0 i) := by
  intro c t e
  rw [Lib.extract_data, List.drop_zero] at e
  cases hl : s.data.toList with
  | nil => rw [hl] at e; simp at e
  | cons d v =>
    rw [hl] at e
    cases i with
    | zero => simp at e
    | succ i =>
      simp only [Nat.sub_zero, List.take_succ_cons] at e
      have := (List.cons.inj e).1
      subst this
      exact h _ _ hl
theorem nodig_cutA {s : ByteArray} (h : NoDig s) : NoDig (cutA s) := by
  unfold cutA
  split
  · exact nodig_cut h _
  · exact h
theorem pre_two {s : ByteArray} (h : Lib.hasPrefix s.data.toList beW.data.toList = true) : Lib.hasPrefix s.data.toList afW.data.toList = false := by
  cases k : Lib.hasPrefix s.data.toList afW.data.toList with
  | false => rfl
  | true =>
    obtain ⟨u, e⟩ := (pre_iff s beW).1 h
    obtain ⟨v, e'⟩ := (pre_iff s afW).1 k
    rw [be_list] at e
    rw [af_list] at e'
    rw [← e', List.cons_append, List.cons_append] at e
    have := (List.cons.inj e).1
    exact absurd this (by decide)

/-- The three others fail: nothing is read. -/
theorem none_of (s : ByteArray) (hu : s ≠ unk) (hs : s.size ≤ 60) (h1 : perE s = 3)
    (C2 : ∀ w k, Table w → w.cell? ⟨k, 0, none⟩ = some (.string beW) → w.cell? ⟨k + 1, 0, none⟩ = some (.func (.func 63) #[] #[]) → Calls Tryd.prog 77 #[.string s, .pointer (some ⟨k, 0, none⟩), .pointer (some ⟨k + 1, 0, none⟩)] w fun e w' => e = Ans 0 0 3 ∧ Below w.heap.size w w')
    (C3 : ∀ w k, Table w → w.cell? ⟨k, 0, none⟩ = some (.string afW) → w.cell? ⟨k + 1, 0, none⟩ = some (.func (.func 64) #[] #[]) → Calls Tryd.prog 77 #[.string s, .pointer (some ⟨k, 0, none⟩), .pointer (some ⟨k + 1, 0, none⟩)] w fun e w' => e = Ans 0 0 3 ∧ Below w.heap.size w w')
    (h4 : perE (cutA s) = 3 ∨ perE (cutB s) = 3) :
    ∀ w, Table w → Calls Tryd.prog 26 #[.string s] w fun e w' => e = Ans 0 0 3 ∧ Below w.heap.size w w' := fun w hT =>
  Parse_none s 0 0 3 0 0 3 0 0 3 0 0 3 0 0 3 w hT (c0_of s hu) (c1_of s h1) C2 C3 (fun w hT => pair_syn s _ _ _ _ _ _ w hT (by omega) rfl rfl rfl rfl rfl rfl h4) rfl rfl rfl rfl rfl

theorem both_before (s : ByteArray) (hu : s ≠ unk) (hs : s.size ≤ 60) (h7 : 7 < s.size) (hp : Lib.hasPrefix s.data.toList beW.data.toList = true) : Both s := by
  have nd : NoDig s := nodig_pre hp be_list (by decide)
  have p3 := per3_first nd
  obtain ⟨_, q1, q2⟩ := pre_cut hp
  rw [be_size] at q1 q2
  have hx : ((s.extract 0 7).toList == [98, 101, 102, 111, 114, 101, 32]) = true := by rw [ByteArray.toList_eq, q1, be_list]; decide
  have C3 : ∀ w k, Table w → w.cell? ⟨k, 0, none⟩ = some (.string afW) → w.cell? ⟨k + 1, 0, none⟩ = some (.func (.func 64) #[] #[]) → Calls Tryd.prog 77 #[.string s, .pointer (some ⟨k, 0, none⟩), .pointer (some ⟨k + 1, 0, none⟩)] w fun e w' => e = Ans 0 0 3 ∧ Below w.heap.size w w' := fun w k _ c0 _ => word_no afW s k w c0 (pre_two hp)
  obtain ⟨t, ht⟩ : ∃ t, t = s.extract 7 s.size := ⟨_, rfl⟩
  have lim := per_lim t
  rw [← ht] at q2
  by_cases h0 : perE t = 0
  · refine ⟨_, _, _, fun w hT => Parse_at2 s 0 0 3 0 0 3 _ _ _ w hT (c0_of s hu) (c1_of s p3) (fun w k hT c0 c1 => word_ok63 beW s k 0 (perF t - 1) (perF t) (perL t) w hT c0 c1 hp (by rw [q2]; exact h0) (by rw [q2]) (by rw [q2]) (Lib.hid (fun w => rd1_is _ _ w (by omega) (by omega)))) rfl rfl (by split <;> omega), fun w => refParse_befG s t (perF t) (perL t) (perE t) w (uk_of s hu) h7 (by omega) hx ht.symm (fun w => refPeriod_any t w) h0 (by omega)⟩
  · by_cases h3 : perE t = 3
    · refine ⟨0, 0, 3, none_of s hu hs p3 (fun w k hT c0 _ => ?_) C3 (.inl (per3_first (nodig_cutA nd))), fun w => ?_⟩
      · have := word_bad beW s k w hT c0 hp (by rw [q2]; exact h0)
        rw [q2, h3] at this
        exact this
      · have := refParse_befB s t (perF t) (perL t) (perE t) w (uk_of s hu) h7 (by omega) hx ht.symm (fun w => refPeriod_any t w) h0
        rw [h3] at this
        exact this
    · refine ⟨0, 0, perE t, fun w hT => Parse_at2 s 0 0 3 0 0 3 _ _ _ w hT (c0_of s hu) (c1_of s p3) (fun w k hT c0 _ => ?_) rfl rfl h3, fun w => refParse_befB s t (perF t) (perL t) (perE t) w (uk_of s hu) h7 (by omega) hx ht.symm (fun w => refPeriod_any t w) h0⟩
      have := word_bad beW s k w hT c0 hp (by rw [q2]; exact h0)
      rw [q2] at this
      exact this

theorem both_after (s : ByteArray) (hu : s ≠ unk) (hs : s.size ≤ 60) (h6 : 6 < s.size) (hp : Lib.hasPrefix s.data.toList afW.data.toList = true) : Both s := by
  have nd : NoDig s := nodig_pre hp af_list (by decide)
  have p3 := per3_first nd
  obtain ⟨_, q1, q2⟩ := pre_cut hp
  rw [af_size] at q1 q2
  have hx : ((s.extract 0 6).toList == [97, 102, 116, 101, 114, 32]) = true := by rw [ByteArray.toList_eq, q1, af_list]; decide
  have hnb : Lib.hasPrefix s.data.toList beW.data.toList = false := by
    cases k : Lib.hasPrefix s.data.toList beW.data.toList with
    | false => rfl
    | true => rw [pre_two k] at hp; cases hp
  have C2 : ∀ w k, Table w → w.cell? ⟨k, 0, none⟩ = some (.string beW) → w.cell? ⟨k + 1, 0, none⟩ = some (.func (.func 63) #[] #[]) → Calls Tryd.prog 77 #[.string s, .pointer (some ⟨k, 0, none⟩), .pointer (some ⟨k + 1, 0, none⟩)] w fun e w' => e = Ans 0 0 3 ∧ Below w.heap.size w w' := fun w k _ c0 _ => word_no beW s k w c0 hnb
  have hb7 : ∀ c7 : Bool, c7 = true → ((s.extract 0 7).toList == [98, 101, 102, 111, 114, 101, 32]) = false := fun _ _ => by
    rw [beq_eq_false_iff_ne, ByteArray.toList_eq, ← be_list]
    intro e
    have := pre_of (s := s) (p := beW) (by rw [be_size]; exact e)
    rw [hnb] at this; cases this
  obtain ⟨t, ht⟩ : ∃ t, t = s.extract 6 s.size := ⟨_, rfl⟩
  have lim := per_lim t
  rw [← ht] at q2
  by_cases h0 : perE t = 0
  · refine ⟨_, _, _, fun w hT => Parse_at3 s 0 0 3 0 0 3 0 0 3 _ _ _ w hT (c0_of s hu) (c1_of s p3) C2 (fun w k hT c0 c1 => word_ok64 afW s k (perL t + 1) 1048575 (perF t) (perL t) w hT c0 c1 hp (by rw [q2]; exact h0) (by rw [q2]) (by rw [q2]) (Lib.hid (fun w => rd2_is _ _ w (by omega) (by omega)))) rfl rfl rfl (by split <;> omega), fun w => refParse_aftG s t (perF t) (perL t) (perE t) w (uk_of s hu) _ rfl (hb7 _) h6 (by omega) hx ht.symm (fun w => refPeriod_any t w) h0 (by omega)⟩
  · by_cases h3 : perE t = 3
    · refine ⟨0, 0, 3, none_of s hu hs p3 C2 (fun w k hT c0 _ => ?_) (.inl (per3_first (nodig_cutA nd))), fun w => ?_⟩
      · have := word_bad afW s k w hT c0 hp (by rw [q2]; exact h0)
        rw [q2, h3] at this
        exact this
      · have := refParse_aftB s t (perF t) (perL t) (perE t) w (uk_of s hu) _ rfl (hb7 _) h6 (by omega) hx ht.symm (fun w => refPeriod_any t w) h0
        rw [h3] at this
        exact this
    · refine ⟨0, 0, perE t, fun w hT => Parse_at3 s 0 0 3 0 0 3 0 0 3 _ _ _ w hT (c0_of s hu) (c1_of s p3) C2 (fun w k hT c0 _ => ?_) rfl rfl rfl h3, fun w => refParse_aftB s t (perF t) (perL t) (perE t) w (uk_of s hu) _ rfl (hb7 _) h6 (by omega) hx ht.symm (fun w => refPeriod_any t w) h0⟩
      have := word_bad afW s k w hT c0 hp (by rw [q2]; exact h0)
      rw [q2] at this
      exact this

theorem pre_same {s p : ByteArray} (h : Lib.hasPrefix s.data.toList p.data.toList = true) (hl : s.size ≤ p.size) : s.data.toList = p.data.toList := by
  have hp := (pre_iff s p).1 h
  exact (hp.eq_of_length_le (by rw [Array.length_toList, Array.length_toList]; exact hl)).symm
theorem not_word {s p : ByteArray} {k : Nat} {l : List UInt8} (hk : p.size = k) (hl : p.data.toList = l) (h : ¬ (Lib.hasPrefix s.data.toList p.data.toList = true ∧ k < s.size)) : k < s.size → ((s.extract 0 k).toList == l) = false := by
  intro hlt
  rw [beq_eq_false_iff_ne, ByteArray.toList_eq, ← hl]
  intro e
  exact h ⟨pre_of (by rw [hk]; exact e), hlt⟩
theorem per_empty {x : ByteArray} (h : x.size = 0) : perE x = 3 := perE_size (by omega) (by omega) (by omega)

theorem both_slash (s : ByteArray) (hu : s ≠ unk) (hs : s.size ≤ 60) (i : Nat) (hi : Lib.indexByte s.data.toList 47 = (i : Int))
    (nb : ¬ (Lib.hasPrefix s.data.toList beW.data.toList = true ∧ 7 < s.size)) (na : ¬ (Lib.hasPrefix s.data.toList afW.data.toList = true ∧ 6 < s.size)) : Both s := by
  obtain ⟨k1, k2, k3⟩ := ib47_at hi
  have k1' : i < s.size := by rw [Array.length_toList] at k1; exact k1
  have mem : (47 : UInt8) ∈ s.data.toList := by rw [k3]; simp
  have p3 := per3_slash mem
  have h47 : s[i] = 47 := by
    have e : s.data.toList[i]? = some 47 := by
      rw [k3, List.getElem?_append_right (by rw [List.length_take]; omega), List.length_take, Nat.min_eq_left (by omega), Nat.sub_self]
      rfl
    exact at_k rfl i k1' 47 e
  have hno : ∀ k (h : k < s.size), k < i → s[k] ≠ 47 := by
    intro k h hk
    have e : (s.data.toList.take i)[k]? = some s[k] := by
      rw [List.getElem?_take, if_pos hk]; exact bytes_list s k h
    exact k2 _ (List.mem_of_getElem? e)
  have fb : Lib.hasPrefix s.data.toList beW.data.toList = false := by
    cases k : Lib.hasPrefix s.data.toList beW.data.toList with
    | false => rfl
    | true =>
      have := pre_same k (by rw [be_size]; exact Nat.le_of_not_lt (fun z => nb ⟨k, z⟩))
      rw [this, be_list] at mem
      exact absurd mem (by decide)
  have fa : Lib.hasPrefix s.data.toList afW.data.toList = false := by
    cases k : Lib.hasPrefix s.data.toList afW.data.toList with
    | false => rfl
    | true =>
      have := pre_same k (by rw [af_size]; exact Nat.le_of_not_lt (fun z => na ⟨k, z⟩))
      rw [this, af_list] at mem
      exact absurd mem (by decide)
  have C2 : ∀ w k, Table w → w.cell? ⟨k, 0, none⟩ = some (.string beW) → w.cell? ⟨k + 1, 0, none⟩ = some (.func (.func 63) #[] #[]) → Calls Tryd.prog 77 #[.string s, .pointer (some ⟨k, 0, none⟩), .pointer (some ⟨k + 1, 0, none⟩)] w fun e w' => e = Ans 0 0 3 ∧ Below w.heap.size w w' := fun w k _ c0 _ => word_no beW s k w c0 fb
  have C3 : ∀ w k, Table w → w.cell? ⟨k, 0, none⟩ = some (.string afW) → w.cell? ⟨k + 1, 0, none⟩ = some (.func (.func 64) #[] #[]) → Calls Tryd.prog 77 #[.string s, .pointer (some ⟨k, 0, none⟩), .pointer (some ⟨k + 1, 0, none⟩)] w fun e w' => e = Ans 0 0 3 ∧ Below w.heap.size w w' := fun w k _ c0 _ => word_no afW s k w c0 fa
  have eA : cutA s = s.extract 0 i := by unfold cutA; rw [hi, if_pos (by omega), Int.toNat_natCast]
  have eB : cutB s = s.extract (i + 1) s.size := by unfold cutB; rw [hi, if_pos (by omega), Int.toNat_natCast]
  have n7 := not_word be_size be_list nb
  have n6 := not_word af_size af_list na
  obtain ⟨x, hx⟩ : ∃ x, x = s.extract 0 i := ⟨_, rfl⟩
  obtain ⟨y, hy⟩ : ∃ y, y = s.extract (i + 1) s.size := ⟨_, rfl⟩
  rw [← hx] at eA
  rw [← hy] at eB
  by_cases h3 : perE x = 3 ∨ perE y = 3
  · refine ⟨0, 0, 3, none_of s hu hs p3 C2 C3 (by rw [eA, eB]; exact h3), fun w => refParse_slashB s w (uk_of s hu) (by omega) n7 n6 i k1' h47 hno x y hx.symm hy.symm (perF x) (perL x) (perE x) (perF y) (perL y) (perE y) (fun w => refPeriod_any x w) (fun w => refPeriod_any y w) 3 (by omega) (fun w => ?_)⟩
    have := refWorse_any (perE x) (perE y) w
    rw [if_pos h3] at this
    exact this
  · by_cases h0 : perE x = 0 ∧ perE y = 0
    · refine ⟨_, _, _, fun w hT => Parse_at4 s 0 0 3 0 0 3 0 0 3 0 0 3 _ _ _ w hT (c0_of s hu) (c1_of s p3) C2 C3 (fun w hT => pair_ok s (perE x) (perF x) (perL x) (perE y) (perF y) (perL y) w hT (by omega) (by rw [eA]) (by rw [eA]) (by rw [eA]) (by rw [eB]) (by rw [eB]) (by rw [eB]) h0) rfl rfl rfl rfl (by split <;> omega), fun w => refParse_slashG s w (uk_of s hu) (by omega) n7 n6 i k1' h47 hno x y hx.symm hy.symm (perF x) (perL x) (perE x) (perF y) (perL y) (perE y) (fun w => refPeriod_any x w) (fun w => refPeriod_any y w) (fun w => ?_)⟩
      have := refWorse_any (perE x) (perE y) w
      rw [if_neg h3, h0.1, h0.2, if_neg (by omega)] at this
      rw [h0.1, h0.2]
      exact this
    · have h1 := per_023 x
      have h2 := per_023 y
      refine ⟨0, 0, 2, fun w hT => Parse_at4 s 0 0 3 0 0 3 0 0 3 0 0 3 0 0 2 w hT (c0_of s hu) (c1_of s p3) C2 C3 (fun w hT => pair_bad s (perE x) (perF x) (perL x) (perE y) (perF y) (perL y) w hT (by omega) (by rw [eA]) (by rw [eA]) (by rw [eA]) (by rw [eB]) (by rw [eB]) (by rw [eB]) (by omega)) rfl rfl rfl rfl (by omega), fun w => refParse_slashB s w (uk_of s hu) (by omega) n7 n6 i k1' h47 hno x y hx.symm hy.symm (perF x) (perL x) (perE x) (perF y) (perL y) (perE y) (fun w => refPeriod_any x w) (fun w => refPeriod_any y w) 2 (by omega) (fun w => ?_)⟩
      have := refWorse_any (perE x) (perE y) w
      rw [if_neg h3] at this
      have e2 : (if perE x ≠ 0 then perE x else perE y) = 2 := by split <;> omega
      rw [e2] at this
      exact this

theorem both_alone (s : ByteArray) (hu : s ≠ unk) (hs : s.size ≤ 60) (hi : Lib.indexByte s.data.toList 47 = -1)
    (nb : ¬ (Lib.hasPrefix s.data.toList beW.data.toList = true ∧ 7 < s.size)) (na : ¬ (Lib.hasPrefix s.data.toList afW.data.toList = true ∧ 6 < s.size)) : Both s := by
  have n7 := not_word be_size be_list nb
  have n6 := not_word af_size af_list na
  have hno : ∀ k (h : k < s.size), s[k] ≠ 47 := fun k h => ib47_no hi _ (List.mem_of_getElem? (bytes_list s k h))
  have R : ∀ w, Calls Tryd.prog 27 #[.string s] w fun e w' => e = Ans (perF s) (perL s) (perE s) ∧ Below w.heap.size w w' := fun w => refParse_per s w (uk_of s hu) (by omega) n7 n6 hno _ _ _ (fun w => refPeriod_any s w)
  by_cases h3 : perE s = 3
  · rw [h3, (per3_zero h3).1, (per3_zero h3).2] at R
    refine ⟨0, 0, 3, none_of s hu hs h3 ?_ ?_ (.inr ?_), R⟩
    · intro w k hT c0 _
      cases hp : Lib.hasPrefix s.data.toList beW.data.toList with
      | false => exact word_no beW s k w c0 hp
      | true =>
        have e : perE (behind beW s) = 3 := per_empty (by rw [(pre_cut hp).2.2, be_size, ByteArray.size_extract]; have l7 : s.size ≤ 7 := Nat.le_of_not_lt (fun z => nb ⟨hp, z⟩); omega)
        have := word_bad beW s k w hT c0 hp (by omega)
        rw [e] at this
        exact this
    · intro w k hT c0 _
      cases hp : Lib.hasPrefix s.data.toList afW.data.toList with
      | false => exact word_no afW s k w c0 hp
      | true =>
        have e : perE (behind afW s) = 3 := per_empty (by rw [(pre_cut hp).2.2, af_size, ByteArray.size_extract]; have l6 : s.size ≤ 6 := Nat.le_of_not_lt (fun z => na ⟨hp, z⟩); omega)
        have := word_bad afW s k w hT c0 hp (by omega)
        rw [e] at this
        exact this
    · unfold cutB
      rw [hi, if_neg (by omega)]
      exact per_empty rfl
  · exact ⟨_, _, _, fun w hT => Parse_at1 s 0 0 3 _ _ _ w hT (c0_of s hu) (fun w hT => readPeriod_any s w hT) rfl h3, R⟩

theorem both_all (s : ByteArray) (hs : s.size ≤ 60) : Both s := by
  by_cases hu : s = unk
  · subst hu; exact both_unk
  by_cases hb : Lib.hasPrefix s.data.toList beW.data.toList = true ∧ 7 < s.size
  · exact both_before s hu hs hb.2 hb.1
  by_cases ha : Lib.hasPrefix s.data.toList afW.data.toList = true ∧ 6 < s.size
  · exact both_after s hu hs ha.2 ha.1
  by_cases hi : Lib.indexByte s.data.toList 47 = -1
  · exact both_alone s hu hs hi hb ha
  · have g := Lib.indexByte_ge s.data.toList 47
    exact both_slash s hu hs (Lib.indexByte s.data.toList 47).toNat (by omega) hb ha

/-- Both Formats answer the same. -/
theorem formats (a b : Int) : ∃ X E, (∀ w, Table w → Calls Tryd.prog 24 #[.agg #[.int .i64 a, .int .i64 b]] w fun e w' => e = .returned (.tuple #[.string X, .int .i64 E]) ∧ Below w.heap.size w w') ∧
    ∀ w, Calls Tryd.prog 25 #[.agg #[.int .i64 a, .int .i64 b]] w fun e w' => e = .returned (.tuple #[.string X, .int .i64 E]) ∧ Below w.heap.size w w' := by
  by_cases h : okD a b
  · exact ⟨_, _, fun w hT => Format_any a b w hT h.1 h.2.1 h.2.2, fun w => refFormat_ok a b w h⟩
  · exact ⟨_, _, fun w _ => Format_bad a b w h, fun w => refFormat_bad a b w h⟩

set_option maxRecDepth 100000 in
set_option maxHeartbeats 4000000 in
theorem texts_large (a b : Int) (s : ByteArray) (w : World) (hT : Table w) (hs : 60 < s.size) :
    Calls Tryd.prog 5 #[.agg #[.int .i64 a, .int .i64 b], .string s] w fun e w' => e = .returned (.bool true) ∧ Below w.heap.size w w' := by
  have hk : (60 : Int) < (s.size : Int) := by omega
  have T0 : Hid (Table (w.alloc (.cells #[.int .i64 a, .int .i64 b] 23))) := hT.below ((Below.refl w.heap.size w).alloc (Nat.le_refl _) _)
  have B0 : Hid (Below w.heap.size w (w.alloc (.cells #[.int .i64 a, .int .i64 b] 23))) := (Below.refl _ _).alloc (Nat.le_refl _) _
  clear hT hs
  go_enter Tryd.func5, Tryd.ntmps5
  go_wp2_with fail
  refine (awake_true _ T0.out).mono ?_
  rintro e w1 ⟨rfl, hb⟩
  have B1 := Lib.hid (B0.out.trans (hb.mono B0.out.size))
  clear hb
  go_wp2_with fail
  go_ret
  exact ⟨rfl, B1.out⟩

set_option maxRecDepth 100000 in
set_option maxHeartbeats 8000000 in
theorem texts_small (a b : Int) (s : ByteArray) (w : World) (hT : Table w) (hs : s.size ≤ 60) :
    Calls Tryd.prog 5 #[.agg #[.int .i64 a, .int .i64 b], .string s] w fun e w' => e = .returned (.bool true) ∧ Below w.heap.size w w' := by
  have hk : (s.size : Int) ≤ 60 := by omega
  obtain ⟨X, E, f1, f2⟩ := formats a b
  obtain ⟨F, L, G, p1, p2⟩ := both_all s hs
  have T0 : Hid (Table (w.alloc (.cells #[.int .i64 a, .int .i64 b] 23))) := hT.below ((Below.refl w.heap.size w).alloc (Nat.le_refl _) _)
  have B0 : Hid (Below w.heap.size w (w.alloc (.cells #[.int .i64 a, .int .i64 b] 23))) := (Below.refl _ _).alloc (Nat.le_refl _) _
  have Y0 := Lib.hid (Z2.new w (.int .i64 a) (.int .i64 b) 23)
  have F1 := Lib.hid f1; have F2 := Lib.hid f2; have P1 := Lib.hid p1; have P2 := Lib.hid p2
  have eX : (X.toList == X.toList) = true := by simp
  have eE : (E == E) = true := by simp
  have eF : (F == F) = true := by simp
  have eL : (L == L) = true := by simp
  have eG : (G == G) = true := by simp
  clear hT hs f1 f2 p1 p2
  go_enter Tryd.func5, Tryd.ntmps5
  go_wp2_with fail
  refine (awake_true _ T0.out).mono ?_
  rintro e w1 ⟨rfl, hb⟩
  have T1 := Lib.hid (T0.out.below hb); have B1 := Lib.hid (B0.out.trans (hb.mono B0.out.size)); have Y1 := Lib.hid (Y0.out.below hb)
  clear hb T0 B0 Y0
  obtain ⟨a0, a1, _, _, _⟩ := Y1.out
  go_wp2_with fail
  refine (F1.out _ T1.out).mono ?_
  rintro e w2 ⟨rfl, hb⟩
  have T2 := Lib.hid (T1.out.below hb); have B2 := Lib.hid (B1.out.trans (hb.mono B1.out.size)); have Y2 := Lib.hid (Y1.out.below hb)
  clear hb T1 a0 a1
  obtain ⟨a0, a1, _, _, _⟩ := Y2.out
  go_wp2_with fail
  refine (F2.out _).mono ?_
  rintro e w3 ⟨rfl, hb⟩
  have T3 := Lib.hid (T2.out.below hb); have B3 := Lib.hid (B2.out.trans (hb.mono B2.out.size))
  clear hb T2 a0 a1
  go_wp2_with fail
  refine (P1.out _ T3.out).mono ?_
  rintro e w4 ⟨rfl, hb⟩
  have B4 := Lib.hid (B3.out.trans (hb.mono B3.out.size))
  clear hb T3
  go_wp2_with fail
  refine (P2.out _).mono ?_
  rintro e w5 ⟨rfl, hb⟩
  have V5 := Lib.hid (((Z2.new w4 (.int .i64 F) (.int .i64 L) 23).below hb).alloc (.cells #[.int .i64 F, .int .i64 L] 23))
  have B5 := Lib.hid ((B4.out.alloc B4.out.size (.cells #[.int .i64 F, .int .i64 L] 23)).trans (hb.mono (by have := B4.out.size; simp; omega)))
  have B6 := Lib.hid (B5.out.alloc B5.out.size (.cells #[.int .i64 F, .int .i64 L] 23))
  clear hb
  obtain ⟨v0, v1, _, _, _⟩ := V5.out
  go_wp2_with fail
  go_ret
  exact ⟨rfl, B6.out⟩

theorem texts_law (a b : Int) (s : ByteArray) (w : World) (hT : Table w) :
    Calls Tryd.prog 5 #[.agg #[.int .i64 a, .int .i64 b], .string s] w fun e w' => e = .returned (.bool true) ∧ Below w.heap.size w w' := by
  by_cases h : 60 < s.size
  · exact texts_large a b s w hT h
  · exact texts_small a b s w hT (by omega)

set_option maxRecDepth 100000 in
theorem texts_lifted (os : Os) (started : os.Started) (H : Type) (enc : TypeId × Value → H) :
    ReturnsInHanded {} Tryd.checked os 5 .any (fun w args => (Rows.datingTextsSpec.pre enc Tryd.prog Tryd.f5 [] false w args ∧ laidMetH Tryd.prog laid1 w) ∧ sizedMet enc Tryd.prog Tryd.f5 (OpenSpec.ofChange Rows.datingTextsSpec) false w args)
      (Rows.datingTextsSpec.post enc Tryd.prog Tryd.f5 false true false false) := by
  refine returnsInHanded_of_change_and (C := Tryd.checked) (X := fun w _ => laidMetH Tryd.prog laid1 w) (fun _ _ _ hh h => h.of_heap hh) own started (by kernel_rfl) Tryd.func5
    (ChangeSpec.witness_shaped (enc := enc) (C := Tryd.checked) (os := os) (X := fun w _ => laidMetH Tryd.prog laid1 w) false (World.doorLaid Tryd.prog 400 os) #[.agg #[.int .i64 0, .int .i64 0], .string { data := #[] }] 8 rfl (World.shaped_of_RefB (by kernel_rfl) (by kernel_rfl)) (by kernel_rfl) (by kernel_rfl) (by kernel_rfl) (door_met os _)) ?_
  intro W base args ds gs before hval0 hW _ _ hL _
  have hval : ∀ (j : Nat) t v, Tryd.f5.params[j]? = some t → args[j]? = some v → Value.okWide Tryd.prog W .any base t v := hval0
  have hW' := hW
  obtain ⟨p, q, hA0, hV, rfl, hfz, hnd⟩ := hW
  have hA : DataW.TrodAll enc Tryd.prog W 0 (fun _ => true) true Tryd.f5.params.toList args.toList ds p := hA0
  rw [Tryd.params5] at hA hval
  obtain ⟨v0, v1, d0, d1, p0, p1, rfl, rfl, rfl, h0, h1⟩ := trodAll_two hA
  obtain ⟨rfl, rfl⟩ := trodVars_none hV
  obtain ⟨a0, b0, rfl⟩ := open_dat (hval 0 23 v0 rfl rfl) h0
  obtain ⟨s1, rfl, rfl, rfl, ws1⟩ := open_string Tryd.underlying9 (hval 1 9 v1 rfl rfl) h1
  refine (texts_law a0 b0 s1 W (table_of_laid hL)).mono fun e W' ⟨he, hb⟩ => ?_
  subst he
  exact ⟨_, rfl, post_true rfl rfl (by kernel_rfl) hW' rfl hb⟩

theorem texts_said : Rows.DatingTextsSaid :=
  OpenClaim.holds_of_wide 5 Tryd.f5 rfl rfl rfl rfl rfl rfl rfl ⟨rfl, rfl, rfl, rfl, rfl⟩ rfl rfl rfl rfl rfl (by kernel_rfl) Tryd.func5 (by kernel_rfl)
    (of_decide_eq_true (by kernel_rfl)) (by unfold Func.isWrapper; first | (rw [if_pos (by decide +kernel)]; kernel_rfl) | (rw [if_neg (by decide +kernel)]; exact ⟨rfl, rfl⟩))
    (fun os started H enc _ => texts_lifted os started H enc)

theorem texts_holds : Rows.DatingTextsCardSaid :=
  Claim7.holds_tied_plain_at .later [] [.data] true (true, "8d303af702edcfadd9ccb66646380e9714c2ac817b63d28ef925ba83bf977c3d") false
    texts_said (fun _ h => by cases h) (by kernel_rfl) (fun _ h => by cases h) datingTexts_row_tie rfl ⟨rfl, rfl⟩ (by kernel_rfl) rfl
    (fun f fn hf hfn => by
      obtain rfl : f = 5 := Option.some.inj ((show Tryd.prog.funcNamed "archivum/archivumlaw03.DatingTexts" = some 5 by kernel_rfl).symm.trans hf) |>.symm
      obtain rfl : fn = Tryd.f5 := (Option.some.inj (Tryd.func5.symm.trans hfn)).symm
      exact ⟨by kernel_rfl, fun j t ht => by
        rw [Tryd.params5] at ht
        have hm : t ∈ [23, 9] := by simpa using Array.mem_of_getElem? ht
        have hall : ([23, 9].all fun u => !Tryd.prog.wantsStandIn u) = true := by kernel_rfl
        exact (show Tryd.prog.wantsStandIn t = false by simpa using List.all_eq_true.1 hall t hm)⟩)
    (by kernel_rfl)
#print axioms texts_holds
end Go.Proofs.YtjpiaccpcmlfnaaDoor

