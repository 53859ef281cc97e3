/-
  Contains; what a chain is, in plain Lean. No statement of the seat is proved here.
-/
import Derived.Test.YtchaihdbljkphaaFi
namespace Go.Proofs.Ytchaihdbljkphaa
open Go Go.RowKit Go.Maps Go.Joins

theorem Contains_ints (p : Option Addr) (xs : List Int) (x : Int) (c : Nat) (w : World) (h : IntsAt w p xs) (hl : xs.length ≤ 100000) :
    Calls Try.prog 24 #[.slice p xs.length c, .int .i64 x] w fun e w' => e = .returned (.bool (decide (x ∈ xs))) ∧ Below w.heap.size w w' := by
  rcases h with rfl | ⟨b, o, rfl, h⟩
  · refine (Try.slices_Contains_int_empty p c x w).mono ?_
    rintro e w' ⟨rfl, rfl⟩
    exact ⟨by simp, Below.refl _ _⟩
  · refine (Try.slices_Contains_int b o xs.length c xs x w (Nat.le_refl _) (by omega) (fun j hj => by
      rw [h j xs[j] (List.getElem?_eq_getElem hj)]
      simp [hj])).mono ?_
    rintro e w' ⟨rfl, h2⟩
    subst h2
    refine ⟨ret_bool ?_, Below.refl _ _⟩
    rw [List.take_length]
    simp
theorem IRow.open2 {w : World} {B : Nat} {r : Value} {l : List Int} (h : IRow w B r l) : ∃ p cap, r = .slice p l.length cap ∧ IntsAt w p l ∧ l.length ≤ cap := by
  obtain ⟨p, cap, hr, hI⟩ := h.open'
  refine ⟨p, cap, hr, hI, ?_⟩
  rcases h.2 with ⟨e, h0⟩ | ⟨g, cap', cur, e, _, _, hn, _⟩
  · rw [h0]; exact Nat.zero_le _
  · rw [hr] at e
    injection e with _ _ e3
    omega
theorem IntsAt.take {w : World} {p : Option Addr} {l : List Int} (h : IntsAt w p l) (k : Nat) : IntsAt w p (l.take k) := by
  rcases h with rfl | ⟨b, o, rfl, h⟩
  · exact .inl (by simp)
  · refine .inr ⟨b, o, rfl, fun i x hi => h i x ?_⟩
    rw [List.getElem?_take] at hi
    split at hi
    · exact hi
    · cases hi
theorem Ch.up {l : List Off} (hg : GoodO l) {d n : Int} {c : List Int} (h : Ch l d n c) : c.Nodup ∧ ∀ x, fnd l n = some x → ∀ z ∈ c, ∃ y, fnd l z = some y ∧ x.fr ≤ y.fr := by
  induction h with
  | stop h1 h2 =>
    refine ⟨by simp, fun x hx z hz => ?_⟩
    obtain rfl := List.mem_singleton.1 hz
    exact ⟨x, hx, Int.le_refl _⟩
  | step h1 h2 h3 h4 ih =>
    obtain ⟨i1, i2⟩ := ih
    have F := hg.fine (fnd_some h1).1
    obtain ⟨y, hy, he⟩ := F.nxt _ (by rw [h3]; exact List.mem_cons_self)
    have i2 := i2 y hy
    refine ⟨List.nodup_cons.2 ⟨fun hm => ?_, i1⟩, fun x hx z hz => ?_⟩
    · obtain ⟨q, hq, hle⟩ := i2 _ hm
      obtain rfl := Option.some.inj (h1.symm.trans hq)
      have := F.fu
      omega
    · obtain rfl := Option.some.inj (h1.symm.trans hx)
      rcases List.mem_cons.1 hz with rfl | hz
      · exact ⟨_, h1, Int.le_refl _⟩
      · obtain ⟨q, hq, hle⟩ := i2 z hz
        exact ⟨q, hq, by have := F.fu; omega⟩
theorem Ch.rc {l : List Off} {d n : Int} {c : List Int} (h : Ch l d n c) : ∀ z ∈ c, Rc l n z := by
  induction h with
  | stop h1 h2 =>
    intro z hz
    obtain rfl := List.mem_singleton.1 hz
    exact .here h1
  | step h1 h2 h3 h4 ih =>
    intro z hz
    rcases List.mem_cons.1 hz with rfl | hz
    · exact .here h1
    · exact .next h1 (by rw [h3]; exact List.mem_cons_self) (ih z hz)
theorem reachL_none {l : List Off} {n : Int} (h : fnd l n = none) : reachL l n = [] := by
  unfold reachL
  rw [List.filter_eq_nil_iff]
  intro z _ hz
  simp only [decide_eq_true_eq] at hz
  obtain ⟨x, hx⟩ := hz.src
  rw [h] at hx
  cases hx
theorem mem_reachL {l : List Off} {n z : Int} (h : Rc l n z) : z ∈ reachL l n := by
  unfold reachL
  rw [List.mem_filter]
  exact ⟨mem_ids.2 h.tgt, by simpa using h⟩
/-- A place of a chain ahead of which its number does not stand. -/
theorem not_ahead {c : List Int} (h : c.Nodup) {i : Nat} {z : Int} (hz : c[i]? = some z) : decide (z ∈ c.take i) = false := by
  rw [decide_eq_false_iff_not]
  intro hm
  exact not_nodup hz hm h

end Go.Proofs.Ytchaihdbljkphaa
