/-
  Ending an office changes nobody's heir before its end, in plain Lean. No statement of the seat is proved here.
-/
import Derived.Test.YtchaihdbljkphaaEd
namespace Go.Proofs.Ytchaihdbljkphaa
open Go Go.RowKit Go.Maps Go.Joins

theorem heir_now {l : List Off} {e z : Int} {a : Off} (hf : fnd l z = some a) (hd : inD a e = true) : heirF l e z = some z := by
  rw [heirF_is (.inr (.stop hf (.inl hd)))]
  show (match fnd l z with | some y => if inD y e = true then some z else none | none => none) = some z
  rw [hf]
  simp only
  rw [if_pos hd]
theorem heir_stop {l : List Off} {e z : Int} {a : Off} (hf : fnd l z = some a) (hd : inD a e = false) (hn : a.nx = []) : heirF l e z = none := by
  rw [heirF_is (.inr (.stop hf (.inr hn)))]
  show (match fnd l z with | some y => if inD y e = true then some z else none | none => none) = none
  rw [hf]
  simp only
  rw [if_neg (by rw [hd]; simp)]
theorem heir_no {l : List Off} {e z : Int} (hf : fnd l z = none) : heirF l e z = none := by
  rw [heirF_is (c := []) (.inl ⟨hf, rfl⟩)]
  rfl
theorem heir_step {l : List Off} (hg : GoodO l) {e z y : Int} {a b : Off} {t : List Int} (hf : fnd l z = some a) (hd : inD a e = false) (hn : a.nx = y :: t) (hy : fnd l y = some b) : heirF l e z = heirF l e y := by
  obtain ⟨c, hc, _⟩ := hg.ch e _ y b hy (Nat.le_refl _)
  rw [heirF_is (.inr hc), heirF_is (.inr (.step hf hd hn hc))]
  obtain ⟨s, rfl⟩ := hc.ne
  unfold hrE
  rw [List.getLast?_cons_cons]
theorem heir_early {l : List Off} (hg : GoodO l) {e z : Int} {a : Off} (hf : fnd l z = some a) (he : e < a.fr) : heirF l e z = none := by
  obtain ⟨c, hc, _⟩ := hg.ch e _ z a hf (Nat.le_refl _)
  rw [heirF_is (.inr hc)]
  obtain ⟨q, y, hq, h0, hy, hr⟩ := hrE_last hc
  rw [hr]
  obtain ⟨y', hy', hle⟩ := (hc.up hg).2 a hf q (List.mem_of_getElem? hq)
  obtain rfl := Option.some.inj (hy.symm.trans hy')
  rw [if_neg]
  unfold inD
  intro h
  rw [Bool.and_eq_true, decide_eq_true_iff] at h
  omega
/-- How the offices of the new list read. -/
theorem end_fnd {l m : List Off} {w : World} {g k : Nat} {x : Off} {d : Int} {nx : List Int} (hg : GoodO l) (hm : GoodO m) (hx : l[k]? = some x) (hC : Cpy w g (endL l k x d nx) m) {z : Int} {a : Off} (hf : fnd l z = some a) :
    ∃ b, fnd m z = some b ∧ b.fr = a.fr ∧ ((b.un = a.un ∧ b.nx = a.nx ∧ a ≠ x) ∨ (a = x ∧ b.un = d ∧ b.nx = nx)) := by
  obtain ⟨ha, e⟩ := fnd_some hf
  obtain ⟨j, hj⟩ := List.getElem?_of_mem ha
  have jl := (List.getElem?_eq_some_iff.1 hj).1
  by_cases h : k = j
  · subst h
    obtain rfl := Option.some.inj (hx.symm.trans hj)
    have he : (endL l k x d nx)[k]? = some { x with un := d, nx := nx } := by
      unfold endL
      rw [List.getElem?_set, if_pos rfl, if_pos jl]
    obtain ⟨b, hb, h1, _, h3, h4, h5⟩ := hC.at_ he
    have hb2 := hm.fndm (List.mem_of_getElem? hb)
    rw [← h1] at hb2
    have hb2 : fnd m x.id = some b := hb2
    rw [e] at hb2
    exact ⟨b, hb2, h3.symm, .inr ⟨rfl, h4.symm, h5.symm⟩⟩
  · have he : (endL l k x d nx)[j]? = some a := by
      unfold endL
      rw [List.getElem?_set, if_neg h]
      exact hj
    obtain ⟨b, hb, h1, _, h3, h4, h5⟩ := hC.at_ he
    have hb2 := hm.fndm (List.mem_of_getElem? hb)
    rw [← h1, e] at hb2
    exact ⟨b, hb2, h3.symm, .inl ⟨h4.symm, h5.symm, fun q => h (by subst q; exact hg.inj hx hj rfl)⟩⟩
theorem end_none {l m : List Off} {w : World} {g k : Nat} {x : Off} {d : Int} {nx : List Int} (hx : l[k]? = some x) (hC : Cpy w g (endL l k x d nx) m) {z : Int} (hf : fnd l z = none) : fnd m z = none := by
  rw [fnd_none] at hf ⊢
  intro b hb e
  obtain ⟨j, hj⟩ := List.getElem?_of_mem hb
  have jl : j < (endL l k x d nx).length := by rw [← hC.len]; exact (List.getElem?_eq_some_iff.1 hj).1
  obtain ⟨a, ha⟩ : ∃ a, (endL l k x d nx)[j]? = some a := ⟨_, List.getElem?_eq_getElem jl⟩
  have h1 := (hC.eqs j a b ha hj).1
  unfold endL at ha
  rw [List.getElem?_set] at ha
  split at ha
  · split at ha
    · obtain rfl := Option.some.inj ha
      exact hf x (List.mem_of_getElem? hx) (h1.trans e)
    · cases ha
  · exact hf a (List.mem_of_getElem? ha) (h1.trans e)
theorem end_heir {l m : List Off} {w : World} {g k : Nat} {x : Off} {d e : Int} {nx : List Int} (hg : GoodO l) (hm : GoodO m) (hx : l[k]? = some x) (h1 : x.fr < d) (h2 : d ≤ x.un) (hC : Cpy w g (endL l k x d nx) m) (he : e < d) (z : Int) : heirF l e z = heirF m e z := by
  have key : ∀ (n : Nat) (z : Int) (a : Off), fnd l z = some a → rk l a.fr ≤ n → heirF l e z = heirF m e z := by
    intro n
    induction n with
    | zero =>
      intro z a hf hk
      have := rk_lt (show a.fr < a.fr + 1 by omega) (fnd_some hf).1 rfl
      omega
    | succ n ih =>
      intro z a hf hk
      obtain ⟨b, hb, hfr, hab⟩ := end_fnd hg hm hx hC hf
      by_cases hfe : e < a.fr
      · rw [heir_early hg hf hfe, heir_early hm hb (by omega)]
      by_cases hue : e < a.un
      · have i1 : inD a e = true := by unfold inD; rw [decide_eq_true (show a.fr ≤ e by omega), decide_eq_true hue]; rfl
        have i2 : inD b e = true := by
          unfold inD
          rw [decide_eq_true (show b.fr ≤ e by omega), decide_eq_true (show e < b.un by rcases hab with ⟨h, _⟩ | ⟨_, h, _⟩ <;> omega)]
          rfl
        rw [heir_now hf i1, heir_now hb i2]
      · have i1 : inD a e = false := by unfold inD; rw [decide_eq_false hue]; simp
        rcases hab with ⟨hu, hn, _⟩ | ⟨ha, _, _⟩
        · have i2 : inD b e = false := by unfold inD; rw [decide_eq_false (show ¬ e < b.un by omega)]; simp
          cases h : a.nx with
          | nil => rw [heir_stop hf i1 h, heir_stop hb i2 (by rw [hn]; exact h)]
          | cons y t =>
            have F := hg.fine (fnd_some hf).1
            obtain ⟨q, hq, hqf⟩ := F.nxt y (by rw [h]; exact List.mem_cons_self)
            obtain ⟨r, hr, _⟩ := end_fnd hg hm hx hC hq
            have hlt := rk_lt (show a.fr < q.fr by have := F.fu; omega) (fnd_some hf).1 rfl
            rw [heir_step hg hf i1 h hq, heir_step hm hb i2 (by rw [hn]; exact h) hr]
            exact ih y q hq (by omega)
        · subst ha
          omega
  cases hf : fnd l z with
  | none => rw [heir_no hf, heir_no (end_none hx hC hf)]
  | some a => exact key _ z a hf (Nat.le_refl _)

end Go.Proofs.Ytchaihdbljkphaa
