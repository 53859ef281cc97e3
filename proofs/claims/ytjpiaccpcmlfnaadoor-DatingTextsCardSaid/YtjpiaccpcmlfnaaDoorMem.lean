/-
  What a block of some cells holds, and that it goes on holding it. No statement of the seat is proved here.
-/
import Derived.Test.YtjpiaccpcmlfnaaDoorPm
namespace Go.Proofs.YtjpiaccpcmlfnaaDoor
open Go.RowKit Cal
/-- What a block of n cells holds. -/
def HoldsN (n : Nat) (w : World) (b : Nat) (vs : Nat → Value) : Prop := b < w.heap.size ∧ ∀ i : Nat, i < n → w.cell? ⟨b, i, none⟩ = some (vs i) ∧ w.frozen? ⟨b, i, none⟩ = false
variable {n : Nat} {w w' : World} {b : Nat} {vs : Nat → Value}
theorem HoldsN.below {B : Nat} (h : HoldsN n w b vs) (hb : Below B w w') (hB : b < B) : HoldsN n w' b vs :=
  ⟨Nat.lt_of_lt_of_le h.1 hb.size, fun i hi => ⟨(hb.cell (p := ⟨b, i, none⟩) hB).trans (h.2 i hi).1, (hb.frozen (p := ⟨b, i, none⟩) hB).trans (h.2 i hi).2⟩⟩
theorem HoldsN.drew (h : HoldsN n w b vs) : HoldsN n w.drew b vs := h
theorem HoldsN.alloc (h : HoldsN n w b vs) (o : Obj) : HoldsN n (w.alloc o) b vs := h.below ((Below.refl _ _).alloc (Nat.le_refl _) o) h.1
theorem HoldsN.put (h : HoldsN n w b vs) (o : Nat) (ho : o < n) (x : Value) : HoldsN n (w.setCell ⟨b, o, none⟩ x) b (fun j => if j = o then x else vs j) := by
  refine ⟨by simpa using h.1, fun i hi => ⟨?_, (World.frozen?_setCell _ _ _ _).trans (h.2 i hi).2⟩⟩
  by_cases e : i = o
  · subst e
    rw [World.cell?_setCell_same _ _ _ (h.2 i hi).1]
    simp
  · rw [World.cell?_setCell_other _ _ _ _ (fun k => e (congrArg Addr.off k).symm), (h.2 i hi).1]
    exact congrArg some (if_neg e).symm
theorem HoldsN.other {c : Nat} (h : HoldsN n w b vs) (hc : c ≠ b) (o : Nat) (x : Value) : HoldsN n (w.setCell ⟨c, o, none⟩ x) b vs := by
  refine ⟨by simpa using h.1, fun i hi => ⟨?_, (World.frozen?_setCell _ _ _ _).trans (h.2 i hi).2⟩⟩
  rw [World.cell?_setCell_other _ _ _ _ (fun k => hc (congrArg Addr.block k)), (h.2 i hi).1]
theorem HoldsN.new (w : World) (l : List Value) (t : TypeId) (n : Nat) (hn : n = l.length) : HoldsN n (w.alloc (.cells l.toArray t)) w.heap.size (fun i => l.getD i undef) := by
  subst hn
  refine ⟨by simp, fun i hi => ⟨?_, World.frozen?_alloc_new _ _ _ _⟩⟩
  rw [World.cell?_alloc_new]
  simp [hi]
theorem HoldsN.cell (h : HoldsN n w b vs) (i : Nat) (hi : i < n) : w.cell? ⟨b, i, none⟩ = some (vs i) := (h.2 i hi).1
theorem HoldsN.frozen (h : HoldsN n w b vs) (i : Nat) (hi : i < n) : w.frozen? ⟨b, i, none⟩ = false := (h.2 i hi).2
theorem put5 (h : HoldsN 5 w b vs) (x0 x1 x2 x3 x4 : Value) :
    (((((w.setCell ⟨b, 0, none⟩ x0).setCell ⟨b, 1, none⟩ x1).setCell ⟨b, 2, none⟩ x2).setCell ⟨b, 3, none⟩ x3).setCell ⟨b, 4, none⟩ x4).cell? ⟨b, 0, none⟩ = some x0 ∧ (((((w.setCell ⟨b, 0, none⟩ x0).setCell ⟨b, 1, none⟩ x1).setCell ⟨b, 2, none⟩ x2).setCell ⟨b, 3, none⟩ x3).setCell ⟨b, 4, none⟩ x4).cell? ⟨b, 1, none⟩ = some x1 ∧ (((((w.setCell ⟨b, 0, none⟩ x0).setCell ⟨b, 1, none⟩ x1).setCell ⟨b, 2, none⟩ x2).setCell ⟨b, 3, none⟩ x3).setCell ⟨b, 4, none⟩ x4).cell? ⟨b, 2, none⟩ = some x2 ∧ (((((w.setCell ⟨b, 0, none⟩ x0).setCell ⟨b, 1, none⟩ x1).setCell ⟨b, 2, none⟩ x2).setCell ⟨b, 3, none⟩ x3).setCell ⟨b, 4, none⟩ x4).cell? ⟨b, 3, none⟩ = some x3 ∧ (((((w.setCell ⟨b, 0, none⟩ x0).setCell ⟨b, 1, none⟩ x1).setCell ⟨b, 2, none⟩ x2).setCell ⟨b, 3, none⟩ x3).setCell ⟨b, 4, none⟩ x4).cell? ⟨b, 4, none⟩ = some x4 := by
  have F := (((((h.put 0 (by omega) x0).put 1 (by omega) x1).put 2 (by omega) x2).put 3 (by omega) x3).put 4 (by omega) x4)
  exact ⟨(F.cell 0 (by omega)).trans rfl, (F.cell 1 (by omega)).trans rfl, (F.cell 2 (by omega)).trans rfl, (F.cell 3 (by omega)).trans rfl, (F.cell 4 (by omega)).trans rfl⟩
theorem put5_other (x0 x1 x2 x3 x4 : Value) {c : Nat} (h : c ≠ b) {v : Value} (k : w.cell? ⟨c, 0, none⟩ = some v) : (((((w.setCell ⟨b, 0, none⟩ x0).setCell ⟨b, 1, none⟩ x1).setCell ⟨b, 2, none⟩ x2).setCell ⟨b, 3, none⟩ x3).setCell ⟨b, 4, none⟩ x4).cell? ⟨c, 0, none⟩ = some v := by
  rw [World.cell?_setCell_other _ _ _ _ (fun k => h (congrArg Addr.block k).symm), World.cell?_setCell_other _ _ _ _ (fun k => h (congrArg Addr.block k).symm), World.cell?_setCell_other _ _ _ _ (fun k => h (congrArg Addr.block k).symm), World.cell?_setCell_other _ _ _ _ (fun k => h (congrArg Addr.block k).symm), World.cell?_setCell_other _ _ _ _ (fun k => h (congrArg Addr.block k).symm), k]
theorem put5_below {B : Nat} {a : World} (h : Below B a w) (hB : B ≤ b) (x0 x1 x2 x3 x4 : Value) : Below B a (((((w.setCell ⟨b, 0, none⟩ x0).setCell ⟨b, 1, none⟩ x1).setCell ⟨b, 2, none⟩ x2).setCell ⟨b, 3, none⟩ x3).setCell ⟨b, 4, none⟩ x4) :=
  (((((h.setCell (p := ⟨b, 0, none⟩) hB x0).setCell (p := ⟨b, 1, none⟩) hB x1).setCell (p := ⟨b, 2, none⟩) hB x2).setCell (p := ⟨b, 3, none⟩) hB x3).setCell (p := ⟨b, 4, none⟩) hB x4)
end Go.Proofs.YtjpiaccpcmlfnaaDoor
