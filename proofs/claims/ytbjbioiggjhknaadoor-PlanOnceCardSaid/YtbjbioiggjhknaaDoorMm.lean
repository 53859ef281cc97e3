/-
  Blocks that keep what they hold, lists of numbers as memory holds them. No statement of the seat is proved here.
-/
import Derived.Test.YtbjbioiggjhknaaDoorPa
import Derived.WalkSpells
import Derived.WalkLawsBesides
namespace Go.Proofs.YtbjbioiggjhknaaDoor
open Go Go.RowKit

theorem ret_bool {a b : Bool} (h : a = b) : Ending.returned (.bool a) = .returned (.bool b) := by rw [h]
theorem ret_int {k : IntKind} {a b : Int} (h : a = b) : Ending.returned (.int k a) = .returned (.int k b) := by rw [h]
theorem bool_ne {a b : Int} (h : a ≠ b) : (a == b) = false := by simp [h]
theorem bool_eq {a b : Int} (h : a = b) : (a == b) = true := by simp [h]

section
/-- What a block of n cells holds. -/
def HoldsN (n : Nat) (w : World) (b : Nat) (vs : Nat → Value) : Prop := b < w.heap.size ∧ ∀ i : Nat, i < n → w.cell? ⟨b, i, none⟩ = some (vs i) ∧ w.frozen? ⟨b, i, none⟩ = false
variable {n : Nat} {w w' : World} {b : Nat} {vs : Nat → Value}
theorem HoldsN.below {B : Nat} (h : HoldsN n w b vs) (hb : Below B w w') (hB : b < B) : HoldsN n w' b vs :=
  ⟨Nat.lt_of_lt_of_le h.1 hb.size, fun i hi => ⟨(hb.cell (p := ⟨b, i, none⟩) hB).trans (h.2 i hi).1, (hb.frozen (p := ⟨b, i, none⟩) hB).trans (h.2 i hi).2⟩⟩
theorem HoldsN.next (h : HoldsN n w b vs) (hb : Below w.heap.size w w') : HoldsN n w' b vs := h.below hb h.1
theorem HoldsN.alloc (h : HoldsN n w b vs) (o : Obj) : HoldsN n (w.alloc o) b vs := h.below ((Below.refl _ _).alloc (Nat.le_refl _) o) h.1
theorem HoldsN.put (h : HoldsN n w b vs) (o : Nat) (ho : o < n) (x : Value) : HoldsN n (w.setCell ⟨b, o, none⟩ x) b (fun j => if j = o then x else vs j) := by
  refine ⟨by simpa using h.1, fun i hi => ⟨?_, (World.frozen?_setCell _ _ _ _).trans (h.2 i hi).2⟩⟩
  by_cases e : i = o
  · subst e
    rw [World.cell?_setCell_same _ _ _ (h.2 i hi).1]
    simp
  · rw [World.cell?_setCell_other _ _ _ _ (fun k => e (congrArg Addr.off k).symm), (h.2 i hi).1]
    exact congrArg some (if_neg e).symm
theorem HoldsN.other {c : Nat} (h : HoldsN n w b vs) (hc : c ≠ b) (o : Nat) (x : Value) : HoldsN n (w.setCell ⟨c, o, none⟩ x) b vs := by
  refine ⟨by simpa using h.1, fun i hi => ⟨?_, (World.frozen?_setCell _ _ _ _).trans (h.2 i hi).2⟩⟩
  rw [World.cell?_setCell_other _ _ _ _ (fun k => hc (congrArg Addr.block k)), (h.2 i hi).1]
theorem HoldsN.new (w : World) (l : List Value) (t : TypeId) (n : Nat) (hn : n = l.length) : HoldsN n (w.alloc (.cells l.toArray t)) w.heap.size (fun i => l.getD i undef) := by
  subst hn
  refine ⟨by simp, fun i hi => ⟨?_, World.frozen?_alloc_new _ _ _ _⟩⟩
  rw [World.cell?_alloc_new]
  simp [hi]
theorem HoldsN.cell (h : HoldsN n w b vs) (i : Nat) (hi : i < n) : w.cell? ⟨b, i, none⟩ = some (vs i) := (h.2 i hi).1
theorem HoldsN.frozen (h : HoldsN n w b vs) (i : Nat) (hi : i < n) : w.frozen? ⟨b, i, none⟩ = false := (h.2 i hi).2
end

theorem below_drewN {B : Nat} {a w : World} (h : Below B a w) (n : Nat) : Below B a (w.drewN n) := ⟨h.os, h.tape, h.output, h.size, h.block⟩


/-- A list of numbers in memory. -/
def IntsAt (w : World) (p : Option Addr) (ns : List Int) : Prop := ns = [] ∨ ∃ b o, p = some ⟨b, o, none⟩ ∧ ∀ j, j < ns.length → w.cell? ⟨b, o + j, none⟩ = some (.int .i64 (ns.getD j 0))
theorem IntsAt.below {w w' : World} {p : Option Addr} {ns : List Int} (h : IntsAt w p ns) (hb : Below w.heap.size w w') : IntsAt w' p ns := by
  rcases h with h | ⟨b, o, rfl, h⟩
  · exact .inl h
  · exact .inr ⟨b, o, rfl, fun j hj => (hb.cell (p := ⟨b, o + j, none⟩) (World.block_lt_of_cell? w _ (h j hj))).trans (h j hj)⟩
theorem ints_at {ns : List Int} {j : Nat} (h : j < ns.length) : (ints ns)[j]? = some (.int .i64 (ns.getD j 0)) := by
  simp [ints, h]
theorem intsAt_of_row {w : World} {base : Nat} {p : Option Addr} {c : Nat} {ns : List Int} (h : w.ownsRow base 3 1 (.slice p ns.length c) ns.length (ints ns)) : IntsAt w p ns := by
  rcases h.2 with ⟨e, h0⟩ | ⟨g, cap, cur, e, _⟩
  · exact .inl (List.length_eq_zero_iff.1 h0)
  · obtain ⟨rfl, rfl⟩ : p = some ⟨g, 0, none⟩ ∧ c = cap := by simpa using e
    refine .inr ⟨g, 0, rfl, fun j hj => ?_⟩
    have := h.cells rfl j _ (ints_at hj)
    rwa [Lib.add_plain] at this

end Go.Proofs.YtbjbioiggjhknaaDoor
