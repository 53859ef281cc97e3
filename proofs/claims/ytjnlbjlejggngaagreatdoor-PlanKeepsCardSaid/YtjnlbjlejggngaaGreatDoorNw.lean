/-
  What the nearest class is, in numbers: above the code, and none between. Plain Lean. No statement of the seat is proved here.
-/
import Derived.Test.YtjnlbjlejggngaaGreatDoorWi
namespace Go.Proofs.YtjnlbjlejggngaaGreatDoor
open Go Go.RowKit

theorem bs_eq {a b : ByteArray} (h : bs a = bs b) : a = b := by
  have h1 : a.data.toList = b.data.toList := h
  cases a; cases b
  simp at h1
  rw [h1]

theorem nearF_num {cs : List Pr} : ∀ (n : Nat) (s t : ByteArray), nearF cs n s = some t → has cs s = false → ∃ ns ms, Is (bs s) ns ∧ Is (bs t) ms ∧ ms <+: ns ∧ ms.length < ns.length ∧ ∀ c xs, Is (bs c) xs → xs <+: ns → ms.length < xs.length → has cs c = false
  | 0, _, _, h, _ => by cases h
  | n + 1, s, t, h, hs => by
    have hs' : ¬ has cs s = true := by rw [hs]; simp
    cases hp : par s with
    | none => rw [nearF_none hs' hp] at h; cases h
    | some q =>
      rw [nearF_some hs' hp] at h
      obtain ⟨ms, k, h0, h1, rfl, h3⟩ := par_some hp
      have whole : ∀ c xs, Is (bs c) xs → xs <+: ms ++ [k] → ms.length < xs.length → has cs c = false := fun c xs hc hx hl => by
        have e : xs = ms ++ [k] := hx.eq_of_length (by have := hx.length_le; simp at this ⊢; omega)
        rw [e] at hc
        rw [show c = s from bs_eq (hc.inj h1)]
        exact hs
      cases hq : has cs ⟨(textOf ms).toArray⟩ with
      | true =>
        cases n with
        | zero => cases h
        | succ n =>
          rw [nearF_stop hq] at h
          obtain rfl := Option.some.inj h
          exact ⟨ms ++ [k], ms, h1, h3, List.prefix_append _ _, by simp, whole⟩
      | false =>
        obtain ⟨ns', us, i1, i2, i3, i4, i5⟩ := nearF_num n _ t h hq
        obtain rfl := i1.unique h3
        refine ⟨ns' ++ [k], us, h1, i2, i3.trans (List.prefix_append _ _), by simp; omega, fun c xs hc hx hl => ?_⟩
        rcases (show xs.length ≤ ns'.length ∨ ns'.length < xs.length by omega) with g | g
        · exact i5 c xs hc (List.prefix_of_prefix_length_le hx (List.prefix_append _ _) g) hl
        · exact whole c xs hc hx g

theorem near_facts {cs : List Pr} {s t : ByteArray} (h : near cs s = some t) (hs : has cs s = false) : has cs t = true ∧ wit s t = true ∧ t ≠ s ∧ (cs.any fun y => decide (y.c ≠ t) && wit s y.c && wit y.c t) = false := by
  have ht := nearF_has h
  obtain ⟨ns, ms, h1, h2, h3, h4, h5⟩ := nearF_num 8 s t h hs
  refine ⟨ht, ?_, fun e => ?_, ?_⟩
  · unfold wit
    rw [codeN_some.2 h1, codeN_some.2 h2]
    exact List.isPrefixOf_iff_prefix.2 h3
  · rw [e, hs] at ht; cases ht
  · rw [Bool.eq_false_iff]
    intro k
    obtain ⟨y, hy, k⟩ := List.any_eq_true.1 k
    simp only [Bool.and_eq_true, decide_eq_true_eq] at k
    obtain ⟨⟨k1, k2⟩, k3⟩ := k
    unfold wit at k2 k3
    rw [codeN_some.2 h1] at k2
    rw [codeN_some.2 h2] at k3
    cases hc : codeN (bs y.c) with
    | none => rw [hc] at k2; cases k2
    | some xs =>
      rw [hc] at k2 k3
      have p1 := List.isPrefixOf_iff_prefix.1 k2
      have p2 := List.isPrefixOf_iff_prefix.1 k3
      have hx := codeN_some.1 hc
      rcases (show ms.length < xs.length ∨ xs.length ≤ ms.length by omega) with g | g
      · have := h5 y.c xs hx p1 g
        rw [← Bool.not_eq_true, has_iff] at this
        exact this ⟨y, hy, rfl⟩
      · have e : ms = xs := p2.eq_of_length (by have := p2.length_le; omega)
        rw [← e] at hx
        exact k1 (bs_eq (hx.inj h2))

end Go.Proofs.YtjnlbjlejggngaaGreatDoor
