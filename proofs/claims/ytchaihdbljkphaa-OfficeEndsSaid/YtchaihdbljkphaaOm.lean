/-
  Maps of offices and of numbers that the call itself made. No statement of the seat is proved here.
-/
import Derived.Test.YtchaihdbljkphaaOo
namespace Go.Proofs.Ytchaihdbljkphaa
open Go Go.RowKit Go.Maps

section
open Classical
/-- The first index of a value among some offices. -/
noncomputable def vix (l : List Off) (v : Value) : Option Nat := l.findIdx? fun y => decide (y.val = v)
def zOff : Value := .agg #[.int .i64 0, .string ⟨#[]⟩, .int .i64 0, .int .i64 0, .slice none 0 0]
/-- How an office reads as an element of a map: as its index. -/
noncomputable def offR (l : List Off) (v : Value) : Option (DataW Unit × List MemPlace) :=
  match vix l v with
  | some i => some (.lit (.int .i64 i), [])
  | none => if v = zOff then some (.lit (.int .i64 (-1)), []) else none
noncomputable def dOf (l : List Off) (x : Off) : DataW Unit :=
  match vix l x.val with
  | some i => .lit (.int .i64 i)
  | none => .lit (.int .i64 (-1))
theorem vix_val {l : List Off} {v : Value} {i : Nat} (h : vix l v = some i) : ∃ x, l[i]? = some x ∧ x.val = v := by
  unfold vix at h
  rw [List.findIdx?_eq_some_iff_getElem] at h
  obtain ⟨hi, h1, _⟩ := h
  exact ⟨_, List.getElem?_eq_getElem hi, of_decide_eq_true h1⟩
theorem offR_mk {l : List Off} {x : Off} (hx : x ∈ l) : offR l x.val = some (dOf l x, []) := by
  unfold offR dOf
  cases h : vix l x.val with
  | some i => rfl
  | none =>
    unfold vix at h
    rw [List.findIdx?_eq_none_iff] at h
    have := h x hx
    simp at this
theorem offR_z (l : List Off) : ∃ zd, offR l zOff = some (zd, []) := by
  unfold offR
  cases h : vix l zOff with
  | some i => exact ⟨_, rfl⟩
  | none => exact ⟨_, if_pos rfl⟩
theorem offR_inj {l : List Off} {v v' : Value} {d : DataW Unit} {p p' : List MemPlace} (h : offR l v = some (d, p)) (h' : offR l v' = some (d, p')) : v = v' := by
  unfold offR at h h'
  cases e : vix l v with
  | some i =>
    rw [e] at h
    simp only [Option.some.injEq, Prod.mk.injEq] at h
    cases e' : vix l v' with
    | some j =>
      rw [e'] at h'
      simp only [Option.some.injEq, Prod.mk.injEq] at h'
      have hij : i = j := by
        have := h.1.trans h'.1.symm
        simp at this
        omega
      subst hij
      obtain ⟨x, h1, h2⟩ := vix_val e
      obtain ⟨y, h3, h4⟩ := vix_val e'
      obtain rfl := Option.some.inj (h1.symm.trans h3)
      rw [← h2, h4]
    | none =>
      rw [e'] at h'
      simp only at h'
      split at h'
      · simp only [Option.some.injEq, Prod.mk.injEq] at h'
        have := h.1.trans h'.1.symm
        simp at this
      · cases h'
  | none =>
    rw [e] at h
    simp only at h
    split at h
    · rename_i hz
      simp only [Option.some.injEq, Prod.mk.injEq] at h
      cases e' : vix l v' with
      | some j =>
        rw [e'] at h'
        simp only [Option.some.injEq, Prod.mk.injEq] at h'
        have := h.1.trans h'.1.symm
        simp at this
      | none =>
        rw [e'] at h'
        simp only at h'
        split at h'
        · rename_i hz'
          rw [hz, hz']
        · cases h'
    · cases h
end
theorem fnd_snoc (m : List Off) (x : Off) (n : Int) : fnd (m ++ [x]) n = match fnd m n with | some y => some y | none => if x.id = n then some x else none := by
  unfold fnd
  rw [List.find?_append]
  cases h : m.find? (fun x => decide (x.id = n)) with
  | some y => rfl
  | none =>
    simp only [Option.none_or]
    by_cases e : x.id = n
    · rw [if_pos e]; show List.find? _ [x] = _; simp [e]
    · rw [if_neg e]; show List.find? _ [x] = _; simp [e]
theorem fnd_snoc_new {m : List Off} {x : Off} (h : fnd m x.id = none) : fnd (m ++ [x]) x.id = some x := by
  rw [fnd_snoc, h]
  simp
theorem fnd_snoc_old (m : List Off) {x : Off} {i : Int} (h : x.id ≠ i) : fnd (m ++ [x]) i = fnd m i := by
  rw [fnd_snoc]
  cases fnd m i with
  | some y => rfl
  | none => simp [h]
/-- Block b is a map that gives the first of some offices with an ID. -/
def MapQ (w : World) (b : Nat) (l m : List Off) : Prop :=
  ∃ (D : DataW Unit) (n : Nat), w.ownsMap Try.prog 3 (offR l) b n D ∧ n ≤ m.length ∧ (∀ (i : Int) zd, D.atKey (.int .i64 i) zd = match fnd m i with | some x => dOf l x | none => zd) ∧ ∀ i : Int, Maps.has D (.int .i64 i) = (fnd m i).isSome
theorem MapQ.new (w : World) (l : List Off) : MapQ (w.alloc (.map #[] 0)) w.heap.size l [] := ⟨_, 0, World.ownsMap_made w _ _ _, Nat.le_refl _, fun _ _ => rfl, fun _ => rfl⟩
theorem MapQ.lt {w : World} {b : Nat} {l m : List Off} (h : MapQ w b l m) : b < w.heap.size := by
  obtain ⟨D, n, h1, _⟩ := h
  exact h1.lt
theorem MapQ.next {w w' : World} {b : Nat} {l m : List Off} (h : MapQ w b l m) (hb : Below w.heap.size w w') : MapQ w' b l m := by
  obtain ⟨D, n, h1, h2⟩ := h
  exact ⟨D, n, h1.kept (row := none) ⟨hb.os, hb.tape, hb.output, hb.size, fun k hk _ => hb.block k hk⟩ (by simp), h2⟩
theorem MapQ.kept {w w' : World} {b : Nat} {l m : List Off} {row : Option Nat} (h : MapQ w b l m) (hg : w.grownBy w' row) (hne : some b ≠ row) : MapQ w' b l m := by
  obtain ⟨D, n, h1, h2⟩ := h
  exact ⟨D, n, h1.kept hg hne, h2⟩
theorem MapQ.skip {w : World} {b : Nat} {l m : List Off} {x : Off} (h : MapQ w b l m) {y : Off} (hy : fnd m x.id = some y) : MapQ w b l (m ++ [x]) := by
  obtain ⟨D, n, h1, h2, h3, h4⟩ := h
  have key : ∀ i, fnd (m ++ [x]) i = fnd m i := fun i => by
    rw [fnd_snoc]
    cases e : fnd m i with
    | some z => rfl
    | none =>
      simp only
      rw [if_neg]
      rintro rfl
      rw [hy] at e
      cases e
  refine ⟨D, n, h1, by rw [List.length_append]; omega, fun i zd => ?_, fun i => ?_⟩
  · rw [h3, key]
  · rw [h4, key]
theorem MapQ.put {w' : World} {b n : Nat} {l m : List Off} {D : DataW Unit} {x : Off} (ht : Tidy D) (h0 : n ≤ m.length) (h3 : ∀ (i : Int) zd, D.atKey (.int .i64 i) zd = match fnd m i with | some x => dOf l x | none => zd)
    (h4 : ∀ i : Int, Maps.has D (.int .i64 i) = (fnd m i).isSome) (hn : fnd m x.id = none) (h : w'.ownsMap Try.prog 3 (offR l) b (n + 1) (D.put (.int .i64 x.id) (dOf l x))) : MapQ w' b l (m ++ [x]) := by
  refine ⟨_, _, h, by rw [List.length_append]; simp; omega, fun i zd => ?_, fun i => ?_⟩
  · by_cases e : x.id = i
    · subst e
      rw [fnd_snoc_new hn]
      exact atKey_put_same ht.isMap (k := .int .i64 x.id) trivial _ _
    · rw [atKey_put_other (D := D) (k := .int .i64 x.id) (k' := .int .i64 i) (fun h => e (by injection h with _ q; exact q.symm)) _ _, h3]
      rw [fnd_snoc_old m e]
  · by_cases e : x.id = i
    · subst e
      rw [fnd_snoc_new hn]
      exact has_put_same ht.isMap (k := .int .i64 x.id) trivial _
    · rw [has_put_other (D := D) (k := .int .i64 x.id) (k' := .int .i64 i) (fun h => e (by injection h with _ q; exact q.symm)) _, h4]
      rw [fnd_snoc_old m e]
/-- Block b is a map that has just some numbers, each with true. -/
def SetM (w : World) (b : Nat) (S : List Int) : Prop :=
  ∃ (D : DataW Unit) (n : Nat), w.ownsMap Try.prog 3 (plainElem Try.prog 4) b n D ∧ n ≤ S.length ∧ (∀ i : Int, D.atKey (.int .i64 i) (.lit (.bool false)) = .lit (.bool (decide (i ∈ S)))) ∧ ∀ i : Int, Maps.has D (.int .i64 i) = decide (i ∈ S)
theorem SetM.new (w : World) : SetM (w.alloc (.map #[] 0)) w.heap.size [] := ⟨_, 0, World.ownsMap_made w _ _ _, Nat.le_refl _, fun _ => rfl, fun _ => rfl⟩
theorem SetM.lt {w : World} {b : Nat} {S : List Int} (h : SetM w b S) : b < w.heap.size := by
  obtain ⟨D, n, h1, _⟩ := h
  exact h1.lt
theorem SetM.next {w w' : World} {b : Nat} {S : List Int} (h : SetM w b S) (hb : Below w.heap.size w w') : SetM w' b S := by
  obtain ⟨D, n, h1, h2⟩ := h
  exact ⟨D, n, h1.kept (row := none) ⟨hb.os, hb.tape, hb.output, hb.size, fun k hk _ => hb.block k hk⟩ (by simp), h2⟩
theorem SetM.kept {w w' : World} {b : Nat} {S : List Int} {row : Option Nat} (h : SetM w b S) (hg : w.grownBy w' row) (hne : some b ≠ row) : SetM w' b S := by
  obtain ⟨D, n, h1, h2⟩ := h
  exact ⟨D, n, h1.kept hg hne, h2⟩
theorem SetM.put {w' : World} {b n : Nat} {S : List Int} {D : DataW Unit} {x : Int} (ht : Tidy D) (h0 : n ≤ S.length) (h3 : ∀ i : Int, D.atKey (.int .i64 i) (.lit (.bool false)) = .lit (.bool (decide (i ∈ S))))
    (h4 : ∀ i : Int, Maps.has D (.int .i64 i) = decide (i ∈ S)) (h : w'.ownsMap Try.prog 3 (plainElem Try.prog 4) b (n + 1) (D.put (.int .i64 x) (.lit (.bool true)))) : SetM w' b (S ++ [x]) := by
  refine ⟨_, _, h, by rw [List.length_append]; simp; omega, fun i => ?_, fun i => ?_⟩
  · by_cases e : x = i
    · subst e
      rw [atKey_put_same ht.isMap (k := .int .i64 x) trivial _ _]
      simp
    · rw [atKey_put_other (D := D) (k := .int .i64 x) (k' := .int .i64 i) (fun h => e (by injection h with _ q; exact q.symm)) _ _, h3]
      simp
      exact fun q => absurd q.symm e
  · by_cases e : x = i
    · subst e
      rw [has_put_same ht.isMap (k := .int .i64 x) trivial _]
      simp
    · rw [has_put_other (D := D) (k := .int .i64 x) (k' := .int .i64 i) (fun h => e (by injection h with _ q; exact q.symm)) _, h4]
      simp
      exact fun q => absurd q.symm e
theorem keys_facts {R : Value → Option (DataW Unit × List MemPlace)} {w : World} {b n : Nat} {D : DataW Unit} (hu : Try.prog.underlying 3 = some (.int .i64)) (hown : w.ownsMap Try.prog 3 R b n D) : (intKeys D).Nodup ∧ ∀ x, x ∈ intKeys D ↔ Maps.has D (.int .i64 x) = true := by
  obtain ⟨es, hD, hpw, _⟩ := hown.entries (int_keyed hu)
  obtain ⟨es', hD', hko⟩ := hown.keysOf
  obtain rfl : es = es' := by rw [hD] at hD'; simpa using hD'
  subst hD
  have hk : ∀ p ∈ es, ∃ x, p.1 = .int .i64 x := fun p hp => by
    obtain ⟨v, hv⟩ := hko p hp
    obtain ⟨x, _, hx, _⟩ := Maps.keyOf_i64 hu hv
    exact ⟨x, hx⟩
  constructor
  · show (es.map fun p => Go.intOf p.1).Nodup
    refine List.pairwise_map.2 (hpw.imp_of_mem fun {p q} hp' hq' hne e => hne ?_)
    obtain ⟨a, ha⟩ := hk p hp'
    obtain ⟨b, hb⟩ := hk q hq'
    rw [ha, hb] at e ⊢
    exact congrArg _ e
  · intro x
    rw [Maps.has_eq, List.any_eq_true]
    show x ∈ es.map (fun p => Go.intOf p.1) ↔ _
    rw [List.mem_map]
    constructor
    · rintro ⟨p, hp', rfl⟩
      obtain ⟨a, ha⟩ := hk p hp'
      exact ⟨p, hp', by rw [ha]; simp [Lit.sameKey, Go.intOf]⟩
    · rintro ⟨p, hp', hs⟩
      obtain ⟨a, ha⟩ := hk p hp'
      rw [ha] at hs
      exact ⟨p, hp', by rw [ha]; simpa [Lit.sameKey, Go.intOf] using hs⟩

end Go.Proofs.Ytchaihdbljkphaa
