/-
  What a file's class is on later days: plans that pass the check follow one another, a class walks through them into the last. Plain Lean. No statement of the seat is proved here.
-/
import Derived.Test.YtbjbioiggjhknaaDoorFo
namespace Go.Proofs.YtbjbioiggjhknaaDoor
open Go Go.RowKit

theorem chk0 {l : List Pln} {I : Int} (h : ChkIs l I 0) : ∀ (i : Nat) p, l[i]? = some p → p.f < p.u ∧ ∀ b, 0 < i → l[i - 1]? = some b → p.f = b.u ∧ stpE b p = 0 := by
  intro i p hp
  have hi : i < l.length := (List.getElem?_eq_some_iff.1 hp).1
  have a0 : atE l i = 0 := by
    rcases h with ⟨_, _, h3⟩ | ⟨_, h2, _⟩ | ⟨j, _, _, _, h4, h5, _⟩
    · cases h3
    · exact h2 i hi
    · exact absurd rfl h5
  unfold atE at a0
  rw [hp] at a0
  dsimp only at a0
  unfold vrsE at a0
  split at a0
  · cases a0
  rename_i g
  have g := Classical.not_not.1 g
  refine ⟨g.2.2.1, fun b hb hl => ?_⟩
  rw [if_neg (by omega), hl] at a0
  dsimp only at a0
  split at a0
  · cases a0
  rename_i g2
  split at a0
  · cases a0
  split at a0
  · rename_i g4
    exact absurd a0 g4
  exact ⟨Classical.not_not.1 g2, a0⟩

theorem stp0 {old p : Pln} {s : ByteArray} (h : stpE old p = 0) (hs : has old.cs s = true) : ∃ t, nxt old p s = some t ∧ has p.cs t = true := by
  unfold stpE at h
  split at h
  · cases h
  rename_i g1
  split at h
  · cases h
  split at h
  · cases h
  rename_i g3
  obtain ⟨x, hx, hxs⟩ := has_iff.1 hs
  have n1 : ¬ (nxt old p s).isNone = true := fun k => g3 (List.any_eq_true.2 ⟨x, hx, by rw [hxs]; exact k⟩)
  cases hn : nxt old p s with
  | none => rw [hn] at n1; exact absurd rfl n1
  | some t =>
    refine ⟨t, rfl, ?_⟩
    unfold nxt at hn
    rw [if_pos hs] at hn
    split at hn
    · rename_i m hm
      obtain rfl := Option.some.inj hn
      have hmem := List.mem_of_find?_eq_some hm
      have : ¬ (!has old.cs m.c || !has p.cs m.t) = true := fun k => g1 (List.any_eq_true.2 ⟨m, hmem, k⟩)
      simp at this
      exact this.2
    · exact nearF_has hn

theorem walk_has : ∀ (r : List Pln) (x : Pln) (s : ByteArray), (∀ (i : Nat) a b, (x :: r)[i]? = some a → (x :: r)[i + 1]? = some b → stpE a b = 0) → has x.cs s = true → ∀ y, (x :: r)[r.length]? = some y → has y.cs (walkF (x :: r) s) = true
  | [], x, s, _, hs, y, hy => by
    obtain rfl : x = y := by simpa using hy
    exact hs
  | z :: r, x, s, hc, hs, y, hy => by
    obtain ⟨t, h1, h2⟩ := stp0 (hc 0 x z rfl rfl) hs
    have := walk_has r z t (fun i a b ha hb => hc (i + 1) a b (by simpa using ha) (by simpa using hb)) h2 y (by simpa using hy)
    show has y.cs (walkF (z :: r) ((nxt x z s).getD emp)) = true
    rw [h1]
    exact this

theorem walkF_split : ∀ (A : List Pln) (y : Pln) (B : List Pln) (s : ByteArray), walkF (A ++ y :: B) s = walkF (y :: B) (walkF (A ++ [y]) s)
  | [], _, _, _ => rfl
  | [_], _, _, _ => rfl
  | a :: a2 :: A, y, B, s => walkF_split (a2 :: A) y B ((nxt a a2 s).getD emp)

theorem subl_cut {l : List Pln} {a b c : Nat} {y : Pln} (h1 : 1 ≤ a) (h2 : a ≤ b) (h3 : b ≤ c) (hy : l[b - 1]? = some y) :
    subl l a c = (l.drop (a - 1)).take (b - a) ++ y :: (l.drop b).take (c - b) ∧ subl l a b = (l.drop (a - 1)).take (b - a) ++ [y] ∧ subl l b c = y :: (l.drop b).take (c - b) := by
  obtain ⟨hlt, he⟩ := List.getElem?_eq_some_iff.1 hy
  have hd : l.drop (b - 1) = y :: l.drop b := by
    rw [List.drop_eq_getElem_cons hlt, he, show b - 1 + 1 = b by omega]
  have key : ∀ c, b ≤ c → subl l a c = (l.drop (a - 1)).take (b - a) ++ y :: (l.drop b).take (c - b) := by
    intro c hc
    unfold subl
    rw [show c - (a - 1) = (b - a) + (c - b + 1) by omega, List.take_add, List.drop_drop, show a - 1 + (b - a) = b - 1 by omega, hd, List.take_succ_cons]
  refine ⟨key c h3, by rw [key b (Nat.le_refl _), Nat.sub_self, List.take_zero], ?_⟩
  unfold subl
  rw [hd, show c - (b - 1) = c - b + 1 by omega, List.take_succ_cons]

theorem walk_on {l : List Pln} {I : Int} (h : ChkIs l I 0) {a b : Nat} {x y : Pln} {s : ByteArray} (h1 : 1 ≤ a) (h2 : a ≤ b) (hx : l[a - 1]? = some x) (hy : l[b - 1]? = some y) (hs : has x.cs s = true) : has y.cs (walkF (subl l a b) s) = true := by
  have hb : b ≤ l.length := by have := (List.getElem?_eq_some_iff.1 hy).1; omega
  have e := (subl_cut (l := l) (a := a) (b := a) (c := b) h1 (Nat.le_refl _) h2 hx).2.2
  have hlen := subl_len h1 h2 hb
  rw [e] at hlen ⊢
  refine walk_has _ x s (fun i p q hp hq => ?_) hs y ?_
  · rw [← e] at hp hq
    have hp' := (subl_get hp).2
    have hq' := (subl_get hq).2
    exact ((chk0 h _ q hq').2 p (by omega) (by rw [show a - 1 + (i + 1) - 1 = a - 1 + i by omega]; exact hp')).2
  · rw [← e]
    rw [List.length_cons] at hlen
    unfold subl
    rw [List.getElem?_take, if_pos (by omega), List.getElem?_drop, show a - 1 + ((l.drop a).take (b - a)).length = b - 1 by omega]
    exact hy

end Go.Proofs.YtbjbioiggjhknaaDoor
