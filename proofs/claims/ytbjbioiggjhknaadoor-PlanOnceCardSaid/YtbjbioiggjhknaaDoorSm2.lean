/-
  The classes' images as a list of pairs, and a map of strings that the call itself made. No statement of the seat is proved here.
-/
import Derived.Test.YtbjbioiggjhknaaDoorKs
import Derived.Test.YtbjbioiggjhknaaDoorFq
import Derived.Test.YtbjbioiggjhknaaDoorMo
import Derived.Test.YtbjbioiggjhknaaDoorSo
import Derived.Maps.OwnSet
import Derived.Maps.OwnOps
import Derived.StringKeys
namespace Go.Proofs.YtbjbioiggjhknaaDoor
open Go Go.RowKit Go.ChangeShapes Go.WideShapes Go.ChangeAt Go.Joins Go.Maps

/-- The classes of a version whose image is a code. -/
def srcOf (g : ByteArray → ByteArray) (fs : List Pr) (c : Pr) : List Pr := fs.filter fun z => decide (g z.c = c.c)
/-- What the law's map holds behind some classes. -/
def pairs (g : ByteArray → ByteArray) (fs : List Pr) (ts : List Pr) : List (ByteArray × ByteArray) := ts.flatMap fun c => (srcOf g fs c).map fun x => (x.c, c.c)
theorem pairs_snoc (g : ByteArray → ByteArray) (fs ts : List Pr) (c : Pr) : pairs g fs (ts ++ [c]) = pairs g fs ts ++ (srcOf g fs c).map fun x => (x.c, c.c) := by
  unfold pairs
  rw [List.flatMap_append]
  simp
def Nod (l : List Pr) : Prop := (l.map (·.c)).Nodup
theorem Nod.eq {l : List Pr} (h : Nod l) {i j : Nat} {x y : Pr} (hx : l[i]? = some x) (hy : l[j]? = some y) (e : x.c = y.c) : i = j := by
  unfold Nod at h
  have h1 : (l.map (·.c))[i]? = some x.c := by rw [List.getElem?_map, hx]; rfl
  have h2 : (l.map (·.c))[j]? = some y.c := by rw [List.getElem?_map, hy]; rfl
  obtain ⟨a1, a2⟩ := List.getElem?_eq_some_iff.1 h1
  obtain ⟨b1, b2⟩ := List.getElem?_eq_some_iff.1 h2
  exact (List.getElem_inj h).1 (by rw [a2, b2]; exact e)
theorem Nod.sub {l m : List Pr} (h : Nod l) (hs : m.Sublist l) : Nod m := by
  unfold Nod at *
  exact (hs.map (·.c)).nodup h
/-- The text that a list of pairs gives for a key. -/
def lookE (es : List (ByteArray × ByteArray)) (k : ByteArray) : ByteArray := match es.find? (fun p => decide (p.1 = k)) with | some p => p.2 | none => ⟨#[]⟩
def hasE (es : List (ByteArray × ByteArray)) (k : ByteArray) : Bool := es.any fun p => decide (p.1 = k)
theorem lookE_no {es : List (ByteArray × ByteArray)} {k : ByteArray} (h : hasE es k = false) : lookE es k = ⟨#[]⟩ := by
  unfold lookE hasE at *
  rw [List.find?_eq_none.2 (fun x hx e => by rw [List.any_eq_false] at h; exact h x hx e)]
/-- Ahead of a class, and of its place among the sources of it, its key is not there. -/
theorem fresh_key {g : ByteArray → ByteArray} {fs ts : List Pr} (hf : Nod fs) (ht : Nod ts) {j i : Nat} {c x : Pr} (hc : ts[j]? = some c) (hx : (srcOf g fs c)[i]? = some x) :
    hasE (pairs g fs (ts.take j) ++ ((srcOf g fs c).take i).map fun x => (x.c, c.c)) x.c = false := by
  have hxm := List.mem_of_getElem? hx
  have hgx : g x.c = c.c := by
    have := (List.mem_filter.1 hxm).2
    exact of_decide_eq_true this
  unfold hasE
  rw [List.any_eq_false]
  intro p hp e
  have e := of_decide_eq_true e
  rcases List.mem_append.1 hp with h | h
  · unfold pairs at h
    obtain ⟨c', hc', h⟩ := List.mem_flatMap.1 h
    obtain ⟨x', hx', rfl⟩ := List.mem_map.1 h
    have h1 : g x'.c = c'.c := of_decide_eq_true (List.mem_filter.1 hx').2
    obtain ⟨k, hk⟩ := List.getElem?_of_mem hc'
    rw [List.getElem?_take] at hk
    split at hk
    · rename_i hkj
      have : k = j := ht.eq hk hc (by rw [← h1, ← hgx]; exact congrArg g e)
      omega
    · cases hk
  · obtain ⟨x', hx', rfl⟩ := List.mem_map.1 h
    obtain ⟨k, hk⟩ := List.getElem?_of_mem hx'
    rw [List.getElem?_take] at hk
    split at hk
    · rename_i hki
      have : k = i := (hf.sub List.filter_sublist).eq hk hx e
      omega
    · cases hk
/-- A class's image is what the map gives for it. -/
theorem lookE_is {g : ByteArray → ByteArray} {fs ts : List Pr} {x : Pr} (hx : x ∈ fs) (hg : ∃ c ∈ ts, c.c = g x.c) : lookE (pairs g fs ts) x.c = g x.c := by
  unfold lookE
  cases h : (pairs g fs ts).find? (fun p => decide (p.1 = x.c)) with
  | none =>
    obtain ⟨c, hc, e⟩ := hg
    have := List.find?_eq_none.1 h (x.c, c.c) (List.mem_flatMap.2 ⟨c, hc, List.mem_map.2 ⟨x, List.mem_filter.2 ⟨hx, decide_eq_true e.symm⟩, rfl⟩⟩)
    exact absurd (decide_eq_true rfl) this
  | some p =>
    have h0 := List.find?_some h
    have h1 : p.1 = x.c := of_decide_eq_true h0
    obtain ⟨c', _, h2⟩ := List.mem_flatMap.1 (List.mem_of_find?_eq_some h)
    obtain ⟨x', hx', rfl⟩ := List.mem_map.1 h2
    have h3 : g x'.c = c'.c := of_decide_eq_true (List.mem_filter.1 hx').2
    show c'.c = g x.c
    rw [← h3]
    exact congrArg g h1
theorem one_hit {ts : List Pr} (ht : Nod ts) {k : ByteArray} (hk : ∃ c ∈ ts, c.c = k) : (ts.map fun c => if k = c.c then 1 else 0).sum = 1 := by
  induction ts with
  | nil => obtain ⟨c, hc, _⟩ := hk; cases hc
  | cons a ts ih =>
    have hn : a.c ∉ ts.map (·.c) ∧ Nod ts := List.nodup_cons.1 ht
    rw [List.map_cons, List.sum_cons]
    by_cases e : k = a.c
    · rw [if_pos e]
      have : (ts.map fun c => if k = c.c then 1 else 0).sum = 0 := by
        have hz : ∀ c ∈ ts, k ≠ c.c := fun c hc e2 => hn.1 (List.mem_map.2 ⟨c, hc, by rw [← e2, e]⟩)
        clear ih hk ht hn
        induction ts with
        | nil => rfl
        | cons b ts ih2 =>
          rw [List.map_cons, List.sum_cons, if_neg (hz b List.mem_cons_self), ih2 (fun c hc => hz c (List.mem_cons_of_mem _ hc))]
      omega
    · rw [if_neg e, ih hn.2 (by
        obtain ⟨c, hc, h⟩ := hk
        rcases List.mem_cons.1 hc with rfl | hc
        · exact absurd h.symm e
        · exact ⟨c, hc, h⟩)]
theorem pairs_len {g : ByteArray → ByteArray} {ts : List Pr} (ht : Nod ts) : ∀ fs : List Pr, (∀ x ∈ fs, ∃ c ∈ ts, c.c = g x.c) → (pairs g fs ts).length = fs.length := by
  have key : ∀ (fs ts : List Pr), (pairs g fs ts).length = (ts.map fun c => (srcOf g fs c).length).sum := by
    intro fs ts
    unfold pairs
    rw [List.length_flatMap]
    congr 1
    exact List.map_congr_left fun c _ => List.length_map _
  intro fs
  induction fs with
  | nil =>
    intro _
    rw [key]
    unfold srcOf
    clear ht key
    induction ts with
    | nil => rfl
    | cons a ts ih => rw [List.map_cons, List.sum_cons, ih (fun _ h => by cases h)]; rfl
  | cons x fs ih =>
    intro h
    rw [key]
    have h1 := ih (fun y hy => h y (List.mem_cons_of_mem _ hy))
    rw [key] at h1
    have h2 := one_hit ht (h x List.mem_cons_self)
    have h3 : ∀ us : List Pr, (us.map fun c => (srcOf g (x :: fs) c).length).sum = (us.map fun c => if g x.c = c.c then 1 else 0).sum + (us.map fun c => (srcOf g fs c).length).sum := by
      intro us
      induction us with
      | nil => rfl
      | cons a us ih3 =>
        rw [List.map_cons, List.sum_cons, List.map_cons, List.sum_cons, List.map_cons, List.sum_cons, ih3]
        have : (srcOf g (x :: fs) a).length = (if g x.c = a.c then 1 else 0) + (srcOf g fs a).length := by
          unfold srcOf
          rw [List.filter_cons]
          by_cases e : g x.c = a.c
          · rw [if_pos e, decide_eq_true e, if_pos rfl, List.length_cons]; omega
          · rw [if_neg e, decide_eq_false e, if_neg (by simp)]; omega
        omega
    rw [h3, h2, h1, List.length_cons]
    omega


/-- The codes of a checked list of classes differ. -/
theorem nod_of {cs : List Pr} (h1 : ∀ x ∈ cs, isC x.c = true) (h2 : incr (cs.map (·.c)) = true) : Nod cs := by
  have key : ∀ cs : List Pr, (∀ x ∈ cs, isC x.c = true) → (∀ i, adj cs i) → ∀ (i d : Nat) x y, cs[i]? = some x → cs[i + d + 1]? = some y → cmpC x.c y.c < 0 := by
    intro cs h1 hadj i d
    induction d with
    | zero =>
      intro x y hx hy
      have := hadj i
      unfold adj at this
      rw [hx, show i + 1 = i + 0 + 1 from rfl, hy] at this
      exact this
    | succ d ih =>
      intro x y hx hy
      have hlt := (List.getElem?_eq_some_iff.1 hy).1
      obtain ⟨z, hz⟩ : ∃ z, cs[i + d + 1]? = some z := ⟨_, List.getElem?_eq_getElem (by omega)⟩
      have q1 := ih x z hx hz
      have q2 := hadj (i + d + 1)
      unfold adj at q2
      rw [hz, show i + d + 1 + 1 = i + (d + 1) + 1 by omega, hy] at q2
      have q2 : cmpC z.c y.c < 0 := q2
      unfold cmpC at *
      obtain ⟨nx, ex⟩ := Option.isSome_iff_exists.1 (h1 x (List.mem_of_getElem? hx))
      obtain ⟨ny, ey⟩ := Option.isSome_iff_exists.1 (h1 y (List.mem_of_getElem? hy))
      obtain ⟨nz, ez⟩ := Option.isSome_iff_exists.1 (h1 z (List.mem_of_getElem? hz))
      rw [ex, ez] at q1
      rw [ez, ey] at q2
      rw [ex, ey]
      have q1 : cmpL nx nz < 0 := q1
      have q2 : cmpL nz ny < 0 := q2
      show cmpL nx ny < 0
      have q3 := cmpL_trans nx nz ny (by omega) (by omega)
      have q4 : cmpL nx ny ≠ 0 := fun k => by
        rw [cmpL_zero] at k
        subst k
        have := cmpL_neg nz nx
        omega
      omega
  have k := key cs h1 ((incr_iff cs).1 h2)
  unfold Nod
  unfold List.Nodup
  rw [List.pairwise_iff_getElem]
  intro i j hi hj hij e
  rw [List.length_map] at hi hj
  rw [List.getElem_map, List.getElem_map] at e
  have q := k i (j - i - 1) cs[i] cs[j] (List.getElem?_eq_getElem hi) (by rw [show i + (j - i - 1) + 1 = j by omega]; exact List.getElem?_eq_getElem hj)
  rw [e] at q
  unfold cmpC at q
  obtain ⟨ny, ey⟩ := Option.isSome_iff_exists.1 (h1 cs[j] (List.getElem_mem hj))
  rw [ey] at q
  have q : cmpL ny ny < 0 := q
  rw [cmpL_self] at q
  omega
/-- .. of a checked list's versions. -/
theorem nod_chk {l : List Pln} {I : Int} (h : ChkIs l I 0) {i : Nat} {p : Pln} (hp : l[i]? = some p) : Nod p.cs := by
  have hi : i < l.length := (List.getElem?_eq_some_iff.1 hp).1
  have a0 : atE l i = 0 := by
    rcases h with ⟨_, _, h3⟩ | ⟨_, h2, _⟩ | ⟨j, _, _, _, h4, h5, _⟩
    · cases h3
    · exact h2 i hi
    · exact absurd rfl h5
  unfold atE at a0
  rw [hp] at a0
  dsimp only at a0
  have c0 : clsE p.cs = 0 := by
    unfold vrsE at a0
    split at a0
    · cases a0
    split at a0
    · split at a0
      · cases a0
      split at a0
      · rename_i g; exact absurd a0 g
      · rename_i g; exact Classical.not_not.1 g
    · split at a0
      · cases a0
      split at a0
      · cases a0
      split at a0
      · rename_i g; exact absurd a0 g
      · rename_i g; exact Classical.not_not.1 g
  unfold clsE at c0
  split at c0
  · cases c0
  rename_i g1
  split at c0
  · cases c0
  split at c0
  · cases c0
  rename_i g3
  refine nod_of (fun x hx => ?_) (by cases hc : incr (p.cs.map (·.c)) with | true => rfl | false => exact absurd hc g3)
  cases hc : isC x.c with
  | true => rfl
  | false => exact absurd (List.any_eq_true.2 ⟨x, hx, by rw [hc]; rfl⟩) g1
theorem pairs_le (g : ByteArray → ByteArray) (fs : List Pr) : ∀ ts : List Pr, (pairs g fs ts).length ≤ ts.length * fs.length := by
  intro ts
  induction ts with
  | nil => exact Nat.zero_le _
  | cons a ts ih =>
    have e : pairs g fs (a :: ts) = (srcOf g fs a).map (fun x => (x.c, a.c)) ++ pairs g fs ts := rfl
    have q : (srcOf g fs a).length ≤ fs.length := List.length_filter_le _ _
    rw [e, List.length_append, List.length_map, List.length_cons, Nat.succ_mul]
    omega

abbrev litD (s : ByteArray) : DataW Unit := .lit (.string s.data.toList)
theorem ba_inj {s t : ByteArray} (h : s.data.toList = t.data.toList) : s = t := by
  cases s; cases t
  exact congrArg ByteArray.mk (Array.toList_inj.1 h)
/-- Block b is a map that gives what a list of pairs gives. -/
def StrM (w : World) (b : Nat) (es : List (ByteArray × ByteArray)) : Prop :=
  ∃ D : DataW Unit, w.ownsMap Tryd.prog 9 (plainElem Tryd.prog 9) b es.length D ∧ Maps.size D = es.length ∧ (∀ k : ByteArray, D.atKey (.string k.data.toList) (litD ⟨#[]⟩) = litD (lookE es k)) ∧ ∀ k : ByteArray, Maps.has D (.string k.data.toList) = hasE es k
theorem StrM.new (w : World) : StrM (w.alloc (.map #[] 0)) w.heap.size [] := ⟨_, World.ownsMap_made w _ _ _, rfl, fun _ => rfl, fun _ => rfl⟩
theorem StrM.lt {w : World} {b : Nat} {es : List (ByteArray × ByteArray)} (h : StrM w b es) : b < w.heap.size := by
  obtain ⟨D, h1, _⟩ := h
  exact h1.lt
theorem StrM.next {w w' : World} {b : Nat} {es : List (ByteArray × ByteArray)} (h : StrM w b es) (hb : Below w.heap.size w w') : StrM w' b es := by
  obtain ⟨D, h1, h2⟩ := h
  exact ⟨D, h1.kept (row := none) ⟨hb.os, hb.tape, hb.output, hb.size, fun k hk _ => hb.block k hk⟩ (by simp), h2⟩
set_option maxRecDepth 100000 in
theorem plainElem_str_inv {v : Value} {x : ByteArray} {ps : List MemPlace} (h : plainElem (H := Unit) Tryd.prog 9 v = some (litD x, ps)) : v = .string x := by
  unfold plainElem at h
  rw [Tryd.underlying9] at h
  cases v <;> simp at h
  obtain ⟨_, h, _⟩ := h
  exact congrArg Value.string (ba_inj (by simpa using h))
theorem StrM.look {w : World} {b : Nat} {es : List (ByteArray × ByteArray)} (h : StrM w b es) (s : ByteArray) (hs : s.size ≤ maxLen) : (Instr.lookup 28 (.map (some b)) (.string s) false).run Tryd.prog w = .ok (.string (lookE es s)) w := by
  obtain ⟨D, h1, _, h2, _⟩ := h
  obtain ⟨v, ps, hr, hv⟩ := h1.lookup (t := 28) (e := 9) (string_keyed Tryd.underlying9) Tryd.underlying28 (z := .string ⟨#[]⟩) (Tryd.zeroValue9 w) (plainElem_string Tryd.underlying9 (s := ⟨#[]⟩) (Nat.zero_le _)) (WideMaps.keyOf_string_mk Tryd.underlying9 hs)
  have e := h2 s
  rw [show (DataW.lit (.string (⟨#[]⟩ : ByteArray).data.toList) : DataW Unit) = litD ⟨#[]⟩ from rfl, e] at hv
  rw [hr, plainElem_str_inv hv]
theorem hasE_snoc (es : List (ByteArray × ByteArray)) (a c k : ByteArray) : hasE (es ++ [(a, c)]) k = (hasE es k || decide (a = k)) := by
  unfold hasE
  rw [List.any_append]
  simp
theorem lookE_snoc {es : List (ByteArray × ByteArray)} {a : ByteArray} (h : hasE es a = false) (c k : ByteArray) : lookE (es ++ [(a, c)]) k = if k = a then c else lookE es k := by
  unfold lookE
  rw [List.find?_append]
  by_cases e : k = a
  · subst e
    rw [if_pos rfl]
    have : es.find? (fun p => decide (p.1 = k)) = none := by
      rw [List.find?_eq_none]
      intro p hp q
      unfold hasE at h
      rw [List.any_eq_false] at h
      exact h p hp q
    rw [this]
    simp
  · rw [if_neg e]
    have : ([(a, c)] : List (ByteArray × ByteArray)).find? (fun p => decide (p.1 = k)) = none := by
      rw [List.find?_eq_none]
      intro p hp q
      obtain rfl := List.mem_singleton.1 hp
      exact e (of_decide_eq_true q).symm
    rw [this]
    simp
theorem StrM.put {w' : World} {b : Nat} {es : List (ByteArray × ByteArray)} {D : DataW Unit} (s c : ByteArray) (ht : Tidy D) (h0 : Maps.size D = es.length) (h2 : ∀ k : ByteArray, D.atKey (.string k.data.toList) (litD ⟨#[]⟩) = litD (lookE es k))
    (h3 : ∀ k : ByteArray, Maps.has D (.string k.data.toList) = hasE es k) (hn : hasE es s = false)
    (h : w'.ownsMap Tryd.prog 9 (plainElem Tryd.prog 9) b (es.length + 1) (D.put (.string s.data.toList) (litD c))) : StrM w' b (es ++ [(s, c)]) := by
  have hl : (es ++ [(s, c)]).length = es.length + 1 := by simp
  refine ⟨_, by rw [hl]; exact h, ?_, fun k => ?_, fun k => ?_⟩
  · rw [size_put ht, h3, hn, hl, h0]
    first | rfl | simp
  · rw [lookE_snoc hn]
    by_cases e : k = s
    · subst e
      rw [if_pos rfl]
      exact atKey_put_same ht.isMap (k := .string k.data.toList) trivial (litD c) (litD ⟨#[]⟩)
    · rw [if_neg e, ← h2 k]
      exact atKey_put_other (D := D) (k := .string s.data.toList) (k' := .string k.data.toList) (fun h => e (ba_inj (by injection h))) (litD c) (litD ⟨#[]⟩)
  · rw [hasE_snoc, ← h3 k]
    by_cases e : k = s
    · subst e
      rw [decide_eq_true rfl, Bool.or_true]
      exact has_put_same ht.isMap (k := .string k.data.toList) trivial (litD c)
    · rw [decide_eq_false (fun q => e q.symm), Bool.or_false]
      exact has_put_other (D := D) (k := .string s.data.toList) (k' := .string k.data.toList) (fun h => e (ba_inj (by injection h))) (litD c)

end Go.Proofs.YtbjbioiggjhknaaDoor
