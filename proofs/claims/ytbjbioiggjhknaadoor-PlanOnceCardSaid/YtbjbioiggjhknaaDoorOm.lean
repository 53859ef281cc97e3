/-
  What the law of one class's one image speaks of, in plain Lean and in memory. No statement of the seat is proved here.
-/
import Derived.Test.YtbjbioiggjhknaaDoorSm2
namespace Go.Proofs.YtbjbioiggjhknaaDoor
open Go Go.RowKit Go.ChangeShapes Go.WideShapes Go.ChangeAt Go.Joins Go.Maps

/-- What a checked list says of two of its versions. -/
theorem once_facts {l : List Pln} {I : Int} (hC : ChkIs l I 0) {a b : Nat} {x y : Pln} (h1 : 1 ≤ a) (h2 : a ≤ b) (hx : l[a - 1]? = some x) (hy : l[b - 1]? = some y) :
    Nod x.cs ∧ Nod y.cs ∧ ∀ q ∈ x.cs, ∃ c ∈ y.cs, c.c = walkF (subl l a b) q.c :=
  ⟨nod_chk hC hx, nod_chk hC hy, fun q hq => has_iff.1 (walk_on hC h1 h2 hx hy (has_iff.2 ⟨q, hq, rfl⟩))⟩
/-- What Sources answers at a class of the second version. -/
theorem src_get {l : List Pln} {a b : Nat} {x y : Pln} {s : ByteArray} {B : Nat} {v : Value} {r : Int} {w : World} (h : SrcAns l 0 (a : Int) (b : Int) s B v r w) (h1 : 1 ≤ a) (h2 : a ≤ b) (h3 : b ≤ l.length)
    (hx : l[a - 1]? = some x) (hy : l[b - 1]? = some y) (hs : has y.cs s = true) :
    r = 0 ∧ w.ownsRow B 9 1 v (x.cs.filter fun z => decide (walkF (subl l a b) z.c = s)).length (strC (x.cs.filter fun z => decide (walkF (subl l a b) z.c = s))) := by
  rcases h with ⟨e, _⟩ | ⟨_, e, _⟩ | ⟨_, a', b', x', y', e1, e2, _, _, _, g1, g2, g3⟩
  · exact absurd rfl e
  · omega
  obtain rfl : a = a' := by omega
  obtain rfl : b = b' := by omega
  obtain rfl : x = x' := Option.some.inj (hx.symm.trans g1)
  obtain rfl : y = y' := Option.some.inj (hy.symm.trans g2)
  rcases g3 with ⟨e, _⟩ | ⟨_, e, k⟩
  · rw [hs] at e; cases e
  · exact ⟨e, k⟩
/-- A row of codes, in blocks from a bound on. -/
def RowB (w : World) (B : Nat) (q : Option Addr) (S : List Pr) : Prop := S = [] ∨ ∃ g, q = some ⟨g, 0, none⟩ ∧ B ≤ g ∧ ∀ (i : Nat) t, S[i]? = some t → w.cell? ⟨g, i, none⟩ = some (.string t.c)
theorem row_open {w : World} {B : Nat} {v : Value} {S : List Pr} (h : w.ownsRow B 9 1 v S.length (strC S)) : ∃ q c, v = .slice q S.length c ∧ RowB w B q S := by
  rcases Go.Joins.ownsRow_forms h with ⟨e, k⟩ | ⟨g, c, e⟩
  · obtain rfl : S = [] := List.length_eq_zero_iff.1 k
    exact ⟨none, 0, e, .inl rfl⟩
  · refine ⟨some ⟨g, 0, none⟩, c, e, .inr ⟨g, rfl, ?_, fun i t ht => ?_⟩⟩
    · subst e
      rcases h.2 with ⟨k, _⟩ | ⟨g2, _, _, k, hb, _⟩
      · cases k
      · cases k
        exact hb
    · subst e
      have hi := (List.getElem?_eq_some_iff.1 ht).1
      rw [h.cellAt i (by omega)]
      unfold strC
      rw [List.getElem?_map, ht]
      rfl
theorem RowB.get {w : World} {B : Nat} {q : Option Addr} {S : List Pr} (h : RowB w B q S) {i : Nat} {t : Pr} (ht : S[i]? = some t) : ∃ g, q = some ⟨g, 0, none⟩ ∧ w.cell? ⟨g, i, none⟩ = some (.string t.c) := by
  rcases h with rfl | ⟨g, e, _, k⟩
  · cases ht
  · exact ⟨g, e, k i t ht⟩
/-- A store into an older block leaves the row. -/
theorem RowB.grown {w w' : World} {B bm : Nat} {q : Option Addr} {S : List Pr} (h : RowB w B q S) (hg : w.grownBy w' (some bm)) (hb : bm < B) : RowB w' B q S := by
  rcases h with h | ⟨g, e, k1, k⟩
  · exact .inl h
  · exact .inr ⟨g, e, k1, fun i t ht => hg.cell (k i t ht) (by intro q; have := Option.some.inj q; simp at this; omega)⟩
theorem PrAt.grown {w w' : World} {b o bm : Nat} {x : Pr} (h : PrAt w b o x) (hg : w.grownBy w' (some bm)) (hb : bm ≠ b) : PrAt w' b o x :=
  ⟨hg.cell h.1 (by intro q; exact hb (Option.some.inj q).symm), hg.cell h.2 (by intro q; exact hb (Option.some.inj q).symm)⟩
/-- The pairs behind one more class. -/
theorem pairs_take {g : ByteArray → ByteArray} {fs ts : List Pr} {j : Nat} {c : Pr} (h : ts[j]? = some c) : pairs g fs (ts.take (j + 1)) = pairs g fs (ts.take j) ++ (srcOf g fs c).map fun x => (x.c, c.c) := by
  obtain ⟨h1, h2⟩ := List.getElem?_eq_some_iff.1 h
  rw [List.take_succ_eq_append_getElem h1, h2, pairs_snoc]
theorem map_take {S : List Pr} {c : ByteArray} {q : Nat} {t : Pr} (h : S[q]? = some t) (es : List (ByteArray × ByteArray)) : es ++ (S.take (q + 1)).map (fun x => (x.c, c)) = (es ++ (S.take q).map (fun x => (x.c, c))) ++ [(t.c, c)] := by
  obtain ⟨h1, h2⟩ := List.getElem?_eq_some_iff.1 h
  rw [List.take_succ_eq_append_getElem h1, h2]
  simp
theorem pairs_few {g : ByteArray → ByteArray} {fs ts S : List Pr} {c : ByteArray} {j q : Nat} (h1 : fs.length ≤ 129) (h2 : ts.length ≤ 129) (h3 : S.length ≤ 129) : (pairs g fs (ts.take j) ++ (S.take q).map (fun x => (x.c, c))).length ≤ 20000 := by
  have k1 := pairs_le g fs (ts.take j)
  have k2 : (ts.take j).length ≤ 129 := Nat.le_trans (List.length_take_le' _ _) h2
  have k3 : (S.take q).length ≤ 129 := Nat.le_trans (List.length_take_le' _ _) h3
  have k4 : (ts.take j).length * fs.length ≤ 129 * 129 := Nat.mul_le_mul k2 h1
  rw [List.length_append, List.length_map]
  omega
end Go.Proofs.YtbjbioiggjhknaaDoor
