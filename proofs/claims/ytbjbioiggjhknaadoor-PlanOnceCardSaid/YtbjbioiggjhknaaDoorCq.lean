/-
  The order of class codes in plain Lean, and the codes above a code. No program, no statement.
-/
import Derived.Test.YtbjbioiggjhknaaDoorCp
namespace Go.Proofs.YtbjbioiggjhknaaDoor
open Go

def cmpL : List Int → List Int → Int
  | [], [] => 0
  | [], _ :: _ => -1
  | _ :: _, [] => 1
  | x :: xs, y :: ys => if x < y then -1 else if y < x then 1 else cmpL xs ys

theorem cmpL_range : ∀ a b : List Int, cmpL a b = -1 ∨ cmpL a b = 0 ∨ cmpL a b = 1
  | [], [] => by simp [cmpL]
  | [], _ :: _ => by simp [cmpL]
  | _ :: _, [] => by simp [cmpL]
  | x :: xs, y :: ys => by
    rw [cmpL]
    split
    · simp
    · split
      · simp
      · exact cmpL_range xs ys
theorem cmpL_neg : ∀ a b : List Int, cmpL b a = - cmpL a b
  | [], [] => by simp [cmpL]
  | [], _ :: _ => by simp [cmpL]
  | _ :: _, [] => by simp [cmpL]
  | x :: xs, y :: ys => by
    rw [cmpL, cmpL, cmpL_neg xs ys]
    by_cases h1 : x < y
    · rw [if_neg (by omega), if_pos h1, if_pos h1]; omega
    · by_cases h2 : y < x
      · rw [if_pos h2, if_neg h1, if_pos h2]
      · rw [if_neg h2, if_neg h1, if_neg h1, if_neg h2]
theorem cmpL_zero : ∀ a b : List Int, cmpL a b = 0 ↔ a = b
  | [], [] => by simp [cmpL]
  | [], _ :: _ => by simp [cmpL]
  | _ :: _, [] => by simp [cmpL]
  | x :: xs, y :: ys => by
    rw [cmpL]
    by_cases h1 : x < y
    · rw [if_pos h1]; simp; intro h; omega
    · rw [if_neg h1]
      by_cases h2 : y < x
      · rw [if_pos h2]; simp; intro h; omega
      · rw [if_neg h2, cmpL_zero xs ys]
        have : x = y := by omega
        simp [this]
theorem cmpL_self (a : List Int) : cmpL a a = 0 := (cmpL_zero a a).2 rfl
theorem cmpL_trans : ∀ a b c : List Int, cmpL a b ≤ 0 → cmpL b c ≤ 0 → cmpL a c ≤ 0
  | [], _, [], _, _ => by simp [cmpL]
  | [], _, _ :: _, _, _ => by simp [cmpL]
  | _ :: _, [], _, h, _ => by simp [cmpL] at h
  | _ :: _, _ :: _, [], _, h => by simp [cmpL] at h
  | x :: xs, y :: ys, z :: zs, h, k => by
    rw [cmpL] at h k ⊢
    by_cases h1 : x < y
    · rw [if_pos h1] at h
      by_cases h2 : y < z
      · rw [if_pos (by omega)]; omega
      · rw [if_neg h2] at k
        by_cases h3 : z < y
        · rw [if_pos h3] at k; omega
        · rw [if_pos (by omega)]; omega
    · rw [if_neg h1] at h
      by_cases h2 : y < x
      · rw [if_pos h2] at h; omega
      · rw [if_neg h2] at h
        obtain rfl : x = y := by omega
        by_cases h3 : x < z
        · rw [if_pos h3]; omega
        · rw [if_neg h3] at k ⊢
          by_cases h4 : z < x
          · rw [if_pos h4] at k; omega
          · rw [if_neg h4] at k ⊢
            exact cmpL_trans xs ys zs h k
/-- What lies between a code and one within it is within it, too. -/
theorem cmpL_between : ∀ a b c : List Int, cmpL a b ≤ 0 → cmpL b c ≤ 0 → a <+: c → a <+: b
  | [], b, _, _, _, _ => List.nil_prefix
  | x :: xs, [], _, h, _, _ => by simp [cmpL] at h
  | _ :: _, _ :: _, [], _, _, h => by simp at h
  | x :: xs, y :: ys, z :: zs, h, k, hp => by
    obtain ⟨rfl, hp'⟩ := List.cons_prefix_cons.1 hp
    rw [cmpL] at h k
    by_cases h1 : x < y
    · rw [if_neg (by omega), if_pos h1] at k; omega
    · rw [if_neg h1] at h
      by_cases h2 : y < x
      · rw [if_pos h2] at h; omega
      · rw [if_neg h2] at h
        obtain rfl : x = y := by omega
        rw [if_neg h1, if_neg h2] at k
        exact List.cons_prefix_cons.2 ⟨rfl, cmpL_between xs ys zs h k hp'⟩
theorem cmpL_snoc : ∀ (a : List Int) (n : Int), cmpL a (a ++ [n]) = -1
  | [], n => by simp [cmpL]
  | x :: a, n => by simp [cmpL, cmpL_snoc a n]

/-- What Compare answers for two texts. -/
theorem Is.inj {l m : List UInt8} {ns : List Int} (h : Is l ns) (k : Is m ns) : l = m := by rw [h.2, k.2]

theorem joinD_snoc : ∀ (ps : List (List UInt8)) (p : List UInt8), ps ≠ [] → joinD (ps ++ [p]) = joinD ps ++ 46 :: p
  | [], _, h => absurd rfl h
  | [q], p, _ => by simp [joinD]
  | q :: r :: ps, p, _ => by
    rw [List.cons_append, joinD_cons q (by simp), joinD_snoc (r :: ps) p (by simp), joinD_cons q (by simp)]
    simp
theorem textOf_snoc {ns : List Int} (h : ns ≠ []) (n : Int) : textOf (ns ++ [n]) = textOf ns ++ 46 :: Lib.itoa n := by
  unfold textOf
  rw [List.map_append, List.map_cons, List.map_nil, joinD_snoc _ _ (by simpa using h)]
theorem textOf_one (n : Int) : textOf [n] = Lib.itoa n := rfl
theorem textOf_len : ∀ {ns : List Int}, GoodN ns → (textOf ns).length ≤ 4 * ns.length
  | [], _ => by simp [textOf, joinD]
  | [n], h => by
    have := (itoa_len (h n (by simp)).1 (h n (by simp)).2).2
    rw [textOf_one]; simp; omega
  | n :: m :: ns, h => by
    have h1 := (itoa_len (h n (by simp)).1 (h n (by simp)).2).2
    have h2 := textOf_len (ns := m :: ns) (fun x hx => h x (List.mem_cons_of_mem _ hx))
    have e : textOf (n :: m :: ns) = Lib.itoa n ++ 46 :: textOf (m :: ns) := rfl
    rw [e]
    simp only [List.length_append, List.length_cons] at h2 ⊢
    omega
theorem Is.len {l : List UInt8} {ns : List Int} (h : Is l ns) : l.length ≤ 24 := by
  have := textOf_len h.1.2.2
  have := h.1.2.1
  rw [h.2]; omega
theorem Is.ne {l : List UInt8} {ns : List Int} (h : Is l ns) : l ≠ [] := by
  obtain ⟨⟨h1, _, h3⟩, rfl⟩ := h
  cases ns with
  | nil => simp at h1
  | cons n ns =>
    have := (itoa_len (h3 n (by simp)).1 (h3 n (by simp)).2).1
    cases ns with
    | nil => intro e; rw [textOf_one] at e; simp [e] at this
    | cons m ns =>
      intro e
      have e' : Lib.itoa n ++ 46 :: textOf (m :: ns) = [] := e
      simp at e'
theorem GoodL.init {ns : List Int} {n : Int} (h : GoodL (ns ++ [n])) (h0 : ns ≠ []) : GoodL ns := by
  refine ⟨?_, ?_, fun x hx => h.2.2 x (by simp [hx])⟩
  · cases ns with
    | nil => exact absurd rfl h0
    | cons a b => simp
  · have := h.2.1; simp at this; omega
theorem Is.parent {l : List UInt8} {ns : List Int} {n : Int} (h : Is l (ns ++ [n])) (h0 : ns ≠ []) : l = textOf ns ++ 46 :: Lib.itoa n ∧ (∀ c ∈ Lib.itoa n, c ≠ 46) ∧ Is (textOf ns) ns := by
  refine ⟨?_, ?_, h.1.init h0, rfl⟩
  · rw [h.2, textOf_snoc h0]
  · have := h.1.2.2 n (by simp)
    exact itoa_nodot this.1 this.2
theorem is_textOf {ns : List Int} (h : GoodL ns) : Is (textOf ns) ns := ⟨h, rfl⟩

end Go.Proofs.YtbjbioiggjhknaaDoor
