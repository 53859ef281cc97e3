/-
  Lists of offices that read alike have the same faults. No statement of the seat is proved here.
-/
import Derived.Test.YtchaihdbljkphaaEd
namespace Go.Proofs.Ytchaihdbljkphaa
open Go Go.RowKit Go.Maps Go.Joins

/-- An office without its place. -/
def bare (x : Off) : Off := { x with np := none, nc := 0 }
theorem EqO.bare {a b : Off} (h : EqO a b) : bare a = bare b := by
  obtain ⟨h1, h2, h3, h4, h5⟩ := h
  unfold Ytchaihdbljkphaa.bare
  rw [h1, h2, h3, h4, h5]
theorem bare_fnd (l : List Off) (n : Int) : fnd (l.map bare) n = (fnd l n).map bare := by
  unfold fnd
  rw [List.find?_map]
  rfl
def nxB (l : List Off) (u n : Int) : Bool := match fnd l n with | some y => decide (y.fr ≠ u) | none => false
theorem nxtE_eq (l : List Off) (x : Off) : nxtE l x = if ¬ x.nx.Nodup then 6 else if (x.nx.any fun n => (fnd l n).isNone) = true then 7 else if (x.nx.any (nxB l x.un)) = true then 10 else 0 := rfl
theorem bare_nxt (l : List Off) (x : Off) : nxtE (l.map bare) (bare x) = nxtE l x := by
  have e1 : (fun n => (fnd (l.map bare) n).isNone) = fun n => (fnd l n).isNone := by
    funext n
    rw [bare_fnd]
    cases fnd l n <;> rfl
  have e2 : nxB (l.map bare) (bare x).un = nxB l x.un := by
    funext n
    unfold nxB
    rw [bare_fnd]
    cases fnd l n <;> rfl
  rw [nxtE_eq, nxtE_eq, e1, e2]
  rfl
theorem bare_bef (l : List Off) (i : Nat) (x : Off) : bef (l.map bare) i (bare x) = bef l i x := by
  unfold bef
  rw [List.getElem?_map]
  cases l[i - 1]? <;> rfl
theorem bare_of (l : List Off) (i : Nat) : ofE (l.map bare) i = ofE l i := by
  unfold ofE
  rw [List.getElem?_map]
  cases l[i]? with
  | none => rfl
  | some x =>
    show (if slfE (bare x) ≠ 0 then slfE (bare x) else if bef (l.map bare) i (bare x) = true then 5 else nxtE (l.map bare) (bare x)) = _
    rw [bare_bef, bare_nxt]
    rfl
theorem bare_chk {l : List Off} {I E : Int} : OChk (l.map bare) I E ↔ OChk l I E := by
  unfold OChk
  simp only [bare_of, List.length_map]
theorem Cpy.bare {w : World} {g : Nat} {l m : List Off} (h : Cpy w g l m) : l.map bare = m.map bare := by
  apply List.ext_getElem?
  intro i
  rw [List.getElem?_map, List.getElem?_map]
  cases ha : l[i]? with
  | none =>
    rw [List.getElem?_eq_none_iff.2 (by rw [h.len]; exact List.getElem?_eq_none_iff.1 ha)]
  | some a =>
    obtain ⟨x, hx, he⟩ := h.at_ ha
    rw [hx]
    exact congrArg some he.bare
theorem Cpy.chk {w : World} {g : Nat} {l m : List Off} (h : Cpy w g l m) {I E : Int} : OChk m I E ↔ OChk l I E := by
  rw [← bare_chk, ← h.bare, bare_chk]

/-- What the ending of an office answers, as a number. -/
def EndW (l : List Off) (id d : Int) (nx : List Int) (c : Int) : Prop :=
  (¬ GoodO l ∧ c = 1) ∨ (GoodO l ∧ fnd l id = none ∧ c = 7) ∨ (∃ x, GoodO l ∧ fnd l id = some x ∧ ¬ canE x.fr x.un d ∧ c = 2) ∨
    ∃ x k I, GoodO l ∧ fnd l id = some x ∧ l[k]? = some x ∧ canE x.fr x.un d ∧ OChk (endL l k x d nx) I c
theorem endW_one {l : List Off} {id d : Int} {nx : List Int} {c c' : Int} (h : EndW l id d nx c) (h' : EndW l id d nx c') : c = c' := by
  rcases h with ⟨a1, rfl⟩ | ⟨a1, a2, rfl⟩ | ⟨x, a1, a2, a3, rfl⟩ | ⟨x, k, I, a1, a2, a3, a4, a5⟩ <;> rcases h' with ⟨b1, rfl⟩ | ⟨b1, b2, rfl⟩ | ⟨y, b1, b2, b3, rfl⟩ | ⟨y, k', I', b1, b2, b3, b4, b5⟩ <;>
    first
      | rfl
      | exact absurd (by assumption) a1
      | exact absurd (by assumption) b1
      | (rw [a2] at b2; cases b2; done)
      | (rw [a2] at b2; obtain rfl := Option.some.inj b2; exact absurd (by assumption) a3)
      | (rw [a2] at b2; obtain rfl := Option.some.inj b2; exact absurd (by assumption) b3)
      | (rw [a2] at b2; obtain rfl := Option.some.inj b2; obtain rfl := a1.inj a3 b3 rfl; exact (ochk_one a5 b5).2)

end Go.Proofs.Ytchaihdbljkphaa
