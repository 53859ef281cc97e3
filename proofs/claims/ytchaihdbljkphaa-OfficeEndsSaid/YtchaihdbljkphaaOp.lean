/-
  Heirs and reached offices in plain Lean. No statement of the seat is proved here.
-/
import Derived.Test.YtchaihdbljkphaaOm
namespace Go.Proofs.Ytchaihdbljkphaa
open Go Go.RowKit Go.Maps

/-- What a chain's end says: who has the duties. -/
def hrE (l : List Off) (d : Int) (c : List Int) : Option Int :=
  match c.getLast? with
  | none => none
  | some z => match fnd l z with
    | some x => if inD x d = true then some z else none
    | none => none
/-- The chain as a list: nothing for an unknown office. -/
def ChL (l : List Off) (d n : Int) (c : List Int) : Prop := (fnd l n = none ∧ c = []) ∨ Ch l d n c
theorem ChL.one {l : List Off} {d n : Int} {c c' : List Int} (h : ChL l d n c) (h' : ChL l d n c') : c = c' := by
  rcases h with ⟨h1, rfl⟩ | h <;> rcases h' with ⟨k1, rfl⟩ | h'
  · rfl
  · obtain ⟨x, hx⟩ := h'.hasx
    rw [h1] at hx; cases hx
  · obtain ⟨x, hx⟩ := h.hasx
    rw [k1] at hx; cases hx
  · exact h.one h'
theorem GoodO.chl {l : List Off} (h : GoodO l) (d n : Int) : ∃ c, ChL l d n c ∧ c.length ≤ 32 := by
  cases e : fnd l n with
  | none => exact ⟨[], Or.inl ⟨e, rfl⟩, by simp⟩
  | some x =>
    obtain ⟨c, h1, h2⟩ := h.ch d _ n x e (Nat.le_refl _)
    exact ⟨c, Or.inr h1, by have := rk_le l x.fr; have := h.1; omega⟩
/-- At each place of a chain: an office; the last one ends it, another one leads on. -/
theorem Ch.at {l : List Off} {d n : Int} {c : List Int} (h : Ch l d n c) : ∀ (i : Nat) (z : Int), c[i]? = some z → ∃ x, fnd l z = some x ∧ ((i + 1 = c.length ∧ (inD x d = true ∨ x.nx = [])) ∨ (i + 1 < c.length ∧ inD x d = false ∧ ∃ m t, x.nx = m :: t ∧ c[i + 1]? = some m)) := by
  induction h with
  | stop h1 h2 =>
    intro i z hz
    cases i with
    | zero =>
      obtain rfl := Option.some.inj hz
      exact ⟨_, h1, Or.inl ⟨rfl, h2⟩⟩
    | succ i => simp at hz
  | step h1 h2 h3 h4 ih =>
    intro i z hz
    cases i with
    | zero =>
      obtain rfl := Option.some.inj hz
      obtain ⟨t, rfl⟩ := h4.ne
      exact ⟨_, h1, Or.inr ⟨by simp, h2, _, _, h3, by simp⟩⟩
    | succ i =>
      obtain ⟨x, k1, k2⟩ := ih i z (by simpa using hz)
      refine ⟨x, k1, ?_⟩
      rcases k2 with ⟨k2, k3⟩ | ⟨k2, k3, m, t, k4, k5⟩
      · exact Or.inl ⟨by rw [List.length_cons]; omega, k3⟩
      · exact Or.inr ⟨by rw [List.length_cons]; omega, k3, m, t, k4, by simpa using k5⟩
open Classical in
/-- The heir of an office. -/
noncomputable def heirF (l : List Off) (d n : Int) : Option Int := if h : ∃ c, ChL l d n c then hrE l d h.choose else none
theorem heirF_is {l : List Off} {d n : Int} {c : List Int} (h : ChL l d n c) : heirF l d n = hrE l d c := by
  unfold heirF
  have e : ∃ c, ChL l d n c := ⟨c, h⟩
  rw [dif_pos e, e.choose_spec.one h]
/-- Who is reached. -/
inductive Rc (l : List Off) : Int → Int → Prop
  | here {n : Int} {x : Off} : fnd l n = some x → Rc l n n
  | next {n m k : Int} {x : Off} : fnd l n = some x → m ∈ x.nx → Rc l m k → Rc l n k
theorem Rc.tgt {l : List Off} {n m : Int} (h : Rc l n m) : ∃ x, fnd l m = some x := by
  induction h with
  | here h => exact ⟨_, h⟩
  | next _ _ _ ih => exact ih
theorem Rc.src {l : List Off} {n m : Int} (h : Rc l n m) : ∃ x, fnd l n = some x := by
  cases h with
  | here h => exact ⟨_, h⟩
  | next h => exact ⟨_, h⟩
theorem Rc.trans {l : List Off} {n m k : Int} (h : Rc l n m) (h' : Rc l m k) : Rc l n k := by
  induction h with
  | here => exact h'
  | next h1 h2 _ ih => exact .next h1 h2 (ih h')
/-- What a visit makes of the numbers that were reached. -/
structure Vis (l : List Off) (S : List Int) (n : Int) (S' : List Int) : Prop where
  old : ∀ z ∈ S, z ∈ S'
  new : ∀ z ∈ S', z ∈ S ∨ Rc l n z
  own : ∀ x, fnd l n = some x → n ∈ S'
  all : ∀ z ∈ S', z ∉ S → ∀ x, fnd l z = some x → ∀ k ∈ x.nx, k ∈ S'
theorem Vis.none {l : List Off} {S : List Int} {n : Int} (h : fnd l n = none) : Vis l S n S :=
  ⟨fun _ h => h, fun _ h => Or.inl h, fun x hx => (by rw [h] at hx; cases hx), fun _ h h' => absurd h h'⟩
theorem Vis.seen {l : List Off} {S : List Int} {n : Int} (h : n ∈ S) : Vis l S n S :=
  ⟨fun _ h => h, fun _ h => Or.inl h, fun _ _ => h, fun _ h h' => absurd h h'⟩
/-- .. after some successors of an office that was marked. -/
structure VisK (l : List Off) (S : List Int) (n : Int) (x : Off) (k : Nat) (T : List Int) : Prop where
  old : ∀ z ∈ S, z ∈ T
  me : n ∈ T
  new : ∀ z ∈ T, z ∈ S ∨ Rc l n z
  did : ∀ i m, i < k → x.nx[i]? = some m → m ∈ T
  all : ∀ z ∈ T, z ∉ S → z ≠ n → ∀ y, fnd l z = some y → ∀ k ∈ y.nx, k ∈ T
theorem VisK.zero {l : List Off} {S : List Int} {n : Int} {x : Off} (h : fnd l n = some x) : VisK l S n x 0 (S ++ [n]) := by
  refine ⟨fun z hz => List.mem_append_left _ hz, by simp, fun z hz => ?_, fun i m hi => absurd hi (Nat.not_lt_zero _), fun z hz h1 h2 => ?_⟩
  · rcases List.mem_append.1 hz with k | k
    · exact Or.inl k
    · obtain rfl := List.mem_singleton.1 k
      exact Or.inr (.here h)
  · rcases List.mem_append.1 hz with k | k
    · exact absurd k h1
    · exact absurd (List.mem_singleton.1 k) h2
theorem VisK.succ {l : List Off} {S : List Int} {n m : Int} {x : Off} {k : Nat} {T T' : List Int} (hx : fnd l n = some x) (hm : x.nx[k]? = some m) (hg : ∃ y, fnd l m = some y) (h : VisK l S n x k T) (h' : Vis l T m T') : VisK l S n x (k + 1) T' := by
  refine ⟨fun z hz => h'.old z (h.old z hz), h'.old _ h.me, fun z hz => ?_, fun i q hi hq => ?_, fun z hz h1 h2 y hy q hq => ?_⟩
  · rcases h'.new z hz with g | g
    · exact h.new z g
    · exact Or.inr (.next hx (List.mem_of_getElem? hm) g)
  · rcases (show i < k ∨ i = k by omega) with g | g
    · exact h'.old _ (h.did i q g hq)
    · subst g
      obtain rfl := Option.some.inj (hm.symm.trans hq)
      obtain ⟨y, hy⟩ := hg
      exact h'.own y hy
  · by_cases g : z ∈ T
    · exact h'.old _ (h.all z g h1 h2 y hy q hq)
    · exact h'.all z hz g y hy q hq
theorem VisK.done {l : List Off} {S : List Int} {n : Int} {x : Off} {T : List Int} (hx : fnd l n = some x) (h : VisK l S n x x.nx.length T) : Vis l S n T := by
  refine ⟨h.old, h.new, fun _ _ => h.me, fun z hz h1 y hy k hk => ?_⟩
  by_cases e : z = n
  · subst e
    obtain rfl := Option.some.inj (hx.symm.trans hy)
    obtain ⟨i, hi⟩ := List.getElem?_of_mem hk
    exact h.did i k (List.getElem?_eq_some_iff.1 hi).1 hi
  · exact h.all z hz h1 e y hy k hk
/-- How many offices are not among some numbers. -/
def unr (l : List Off) (S : List Int) : Nat := (l.filter fun x => decide (x.id ∉ S)).length
theorem unr_le {l : List Off} {S T : List Int} (h : ∀ z ∈ S, z ∈ T) : unr l T ≤ unr l S := by
  unfold unr
  have e3 : (l.filter fun x => decide (x.id ∉ T)) = (l.filter fun x => decide (x.id ∉ S)).filter fun x => decide (x.id ∉ T) := by
    rw [List.filter_filter]
    refine List.filter_congr fun y _ => ?_
    by_cases k : y.id ∈ T
    · simp [k]
    · simp [k]
      exact fun q => k (h _ q)
  rw [e3]
  exact List.length_filter_le _ _
theorem unr_lt {l : List Off} {S T : List Int} (h : ∀ z ∈ S, z ∈ T) {x : Off} (hx : x ∈ l) (h1 : x.id ∉ S) (h2 : x.id ∈ T) : unr l T < unr l S := by
  refine Nat.lt_of_le_of_ne (unr_le h) fun e => ?_
  unfold unr at e
  have e3 : (l.filter fun x => decide (x.id ∉ T)) = (l.filter fun x => decide (x.id ∉ S)).filter fun x => decide (x.id ∉ T) := by
    rw [List.filter_filter]
    refine List.filter_congr fun y _ => ?_
    by_cases k : y.id ∈ T
    · simp [k]
    · simp [k]
      exact fun q => k (h _ q)
  have hs : (l.filter fun x => decide (x.id ∉ T)).Sublist (l.filter fun x => decide (x.id ∉ S)) := by
    rw [e3]
    exact List.filter_sublist
  have e2 := hs.eq_of_length e
  have hm : x ∈ l.filter fun x => decide (x.id ∉ S) := List.mem_filter.2 ⟨hx, decide_eq_true h1⟩
  rw [← e2] at hm
  have := of_decide_eq_true (List.mem_filter.1 hm).2
  exact this h2
theorem Vis.reach {l : List Off} {n : Int} {S : List Int} (h : Vis l [] n S) (z : Int) : z ∈ S ↔ Rc l n z := by
  constructor
  · intro hz
    rcases h.new z hz with g | g
    · cases g
    · exact g
  · intro hz
    obtain ⟨x, hx⟩ := hz.src
    have h0 := h.own x hx
    clear hx x
    have key : ∀ a, Rc l a z → a ∈ S → z ∈ S := by
      intro a ha
      induction ha with
      | here => exact fun h => h
      | next k1 k2 _ ih => exact fun hm => ih hz (h.all _ hm (by simp) _ k1 _ k2)
    exact key n hz h0
open Classical in
noncomputable def reachL (l : List Off) (n : Int) : List Int := (l.map (·.id)).filter fun z => decide (Rc l n z)
open Classical in
noncomputable def dutL (l : List Off) (n d : Int) : List Int := (l.map (·.id)).filter fun z => decide (heirF l d z = some n)
theorem sorted_one {a b : List Int} (ha : a.Pairwise (· < ·)) (hb : b.Pairwise (· < ·)) (h : ∀ z, z ∈ a ↔ z ∈ b) : a = b := by
  have na : a.Nodup := ha.imp fun h => by omega
  have nb : b.Nodup := hb.imp fun h => by omega
  have hp : a.Perm b := (List.perm_ext_iff_of_nodup na nb).2 h
  exact hp.eq_of_pairwise (fun x y _ _ h1 h2 => by omega) ha hb
theorem mem_ids {l : List Off} {z : Int} : z ∈ l.map (·.id) ↔ ∃ x, fnd l z = some x := by
  rw [List.mem_map]
  constructor
  · rintro ⟨x, hx, rfl⟩
    exact fnd_ex hx rfl
  · rintro ⟨x, hx⟩
    exact ⟨x, (fnd_some hx).1, (fnd_some hx).2⟩
theorem reachL_is {l : List Off} (h : GoodO l) (n : Int) {a : List Int} (ha : a.Pairwise (· < ·)) (hm : ∀ z, z ∈ a ↔ Rc l n z) : a = reachL l n := by
  refine sorted_one ha (h.ids.filter _) fun z => ?_
  unfold reachL
  rw [hm, List.mem_filter, mem_ids]
  simp only [decide_eq_true_eq]
  exact ⟨fun k => ⟨k.tgt, k⟩, fun k => k.2⟩
theorem dutL_is {l : List Off} (h : GoodO l) (n d : Int) {a : List Int} (ha : a.Pairwise (· < ·)) (hm : ∀ z, z ∈ a ↔ (∃ x, fnd l z = some x) ∧ heirF l d z = some n) : a = dutL l n d := by
  refine sorted_one ha (h.ids.filter _) fun z => ?_
  unfold dutL
  rw [hm, List.mem_filter, mem_ids]
  simp only [decide_eq_true_eq]

end Go.Proofs.Ytchaihdbljkphaa
