/-
  Lists of pieces as memory holds them, blocks that keep what they hold, and the small functions of package timeline and of its reference: isSpan, has, continues. No statement of the seat is proved here.
-/
import Derived.Test.YtcgjhbjbfdbfaaaRows
import Derived.WalkKit
import Derived.WalkSpells
import Derived.WalkLawsBesides
import Derived.Lib.Hide
import Derived.Handy
import Derived.BigQuiet
namespace Go.Proofs.Ytcgjhbjbfdbfaaa
open Go.RowKit

theorem ret_bool {a b : Bool} (h : a = b) : Ending.returned (.bool a) = .returned (.bool b) := by rw [h]
theorem ret_int {k : IntKind} {a b : Int} (h : a = b) : Ending.returned (.int k a) = .returned (.int k b) := by rw [h]
theorem bool_ne {a b : Int} (h : a ≠ b) : (a == b) = false := by simp [h]
theorem bool_eq {a b : Int} (h : a = b) : (a == b) = true := by simp [h]

section
/-- What a block of n cells holds. -/
def HoldsN (n : Nat) (w : World) (b : Nat) (vs : Nat → Value) : Prop := b < w.heap.size ∧ ∀ i : Nat, i < n → w.cell? ⟨b, i, none⟩ = some (vs i) ∧ w.frozen? ⟨b, i, none⟩ = false
variable {n : Nat} {w w' : World} {b : Nat} {vs : Nat → Value}
theorem HoldsN.below {B : Nat} (h : HoldsN n w b vs) (hb : Below B w w') (hB : b < B) : HoldsN n w' b vs :=
  ⟨Nat.lt_of_lt_of_le h.1 hb.size, fun i hi => ⟨(hb.cell (p := ⟨b, i, none⟩) hB).trans (h.2 i hi).1, (hb.frozen (p := ⟨b, i, none⟩) hB).trans (h.2 i hi).2⟩⟩
theorem HoldsN.next (h : HoldsN n w b vs) (hb : Below w.heap.size w w') : HoldsN n w' b vs := h.below hb h.1
theorem HoldsN.alloc (h : HoldsN n w b vs) (o : Obj) : HoldsN n (w.alloc o) b vs := h.below ((Below.refl _ _).alloc (Nat.le_refl _) o) h.1
theorem HoldsN.put (h : HoldsN n w b vs) (o : Nat) (ho : o < n) (x : Value) : HoldsN n (w.setCell ⟨b, o, none⟩ x) b (fun j => if j = o then x else vs j) := by
  refine ⟨by simpa using h.1, fun i hi => ⟨?_, (World.frozen?_setCell _ _ _ _).trans (h.2 i hi).2⟩⟩
  by_cases e : i = o
  · subst e
    rw [World.cell?_setCell_same _ _ _ (h.2 i hi).1]
    simp
  · rw [World.cell?_setCell_other _ _ _ _ (fun k => e (congrArg Addr.off k).symm), (h.2 i hi).1]
    exact congrArg some (if_neg e).symm
theorem HoldsN.other {c : Nat} (h : HoldsN n w b vs) (hc : c ≠ b) (o : Nat) (x : Value) : HoldsN n (w.setCell ⟨c, o, none⟩ x) b vs := by
  refine ⟨by simpa using h.1, fun i hi => ⟨?_, (World.frozen?_setCell _ _ _ _).trans (h.2 i hi).2⟩⟩
  rw [World.cell?_setCell_other _ _ _ _ (fun k => hc (congrArg Addr.block k)), (h.2 i hi).1]
theorem HoldsN.new (w : World) (l : List Value) (t : TypeId) (n : Nat) (hn : n = l.length) : HoldsN n (w.alloc (.cells l.toArray t)) w.heap.size (fun i => l.getD i undef) := by
  subst hn
  refine ⟨by simp, fun i hi => ⟨?_, World.frozen?_alloc_new _ _ _ _⟩⟩
  rw [World.cell?_alloc_new]
  simp [hi]
theorem HoldsN.cell (h : HoldsN n w b vs) (i : Nat) (hi : i < n) : w.cell? ⟨b, i, none⟩ = some (vs i) := (h.2 i hi).1
theorem HoldsN.frozen (h : HoldsN n w b vs) (i : Nat) (hi : i < n) : w.frozen? ⟨b, i, none⟩ = false := (h.2 i hi).2
end

theorem below_drewN {B : Nat} {a w : World} (h : Below B a w) (n : Nat) : Below B a (w.drewN n) := ⟨h.os, h.tape, h.output, h.size, h.block⟩

/-- A piece in memory: its first day, the day behind its last one, its value. -/
def Pc (w : World) (b o : Nat) (f u v : Int) : Prop := w.cell? ⟨b, o, none⟩ = some (.int .i64 f) ∧ w.cell? ⟨b, o + 1, none⟩ = some (.int .i64 u) ∧ w.cell? ⟨b, o + 2, none⟩ = some (.int .i64 v)
theorem Pc.lt {w : World} {b o : Nat} {f u v : Int} (h : Pc w b o f u v) : b < w.heap.size := World.block_lt_of_cell? w _ h.1
theorem Pc.below {w w' : World} {B b o : Nat} {f u v : Int} (h : Pc w b o f u v) (hb : Below B w w') (hB : b < B) : Pc w' b o f u v :=
  ⟨(hb.cell (p := ⟨b, o, none⟩) hB).trans h.1, (hb.cell (p := ⟨b, o + 1, none⟩) hB).trans h.2.1, (hb.cell (p := ⟨b, o + 2, none⟩) hB).trans h.2.2⟩
theorem Pc.next {w w' : World} {b o : Nat} {f u v : Int} (h : Pc w b o f u v) (hb : Below w.heap.size w w') : Pc w' b o f u v := h.below hb h.lt
theorem Pc.alloc {w : World} {b o : Nat} {f u v : Int} (h : Pc w b o f u v) (ob : Obj) : Pc (w.alloc ob) b o f u v := h.next ((Below.refl _ _).alloc (Nat.le_refl _) ob)
theorem Pc.new (w : World) (f u v : Int) (t : TypeId) : Pc (w.alloc (.cells #[.int .i64 f, .int .i64 u, .int .i64 v] t)) w.heap.size 0 f u v :=
  ⟨World.cell?_alloc_new w _ t 0, World.cell?_alloc_new w _ t 1, World.cell?_alloc_new w _ t 2⟩
/-- A list of pieces in memory. -/
def PcsAt (w : World) (p : Option Addr) (n : Nat) (F U V : Nat → Int) : Prop := n = 0 ∨ ∃ blk off, p = some ⟨blk, off, none⟩ ∧ ∀ i : Nat, i < n → Pc w blk (off + i * 3) (F i) (U i) (V i)
theorem PcsAt.below {w w' : World} {p : Option Addr} {n : Nat} {F U V : Nat → Int} (h : PcsAt w p n F U V) (hb : Below w.heap.size w w') : PcsAt w' p n F U V := by
  rcases h with h | ⟨blk, off, hp, h⟩
  · exact Or.inl h
  · exact Or.inr ⟨blk, off, hp, fun i hi => (h i hi).next hb⟩

/-- A span is valid. -/
abbrev spn (f u : Int) : Prop := 0 ≤ f ∧ f < u ∧ u ≤ 1048576

set_option maxHeartbeats 1000000 in
theorem isSpan_any (f u : Int) (w : World) :
    Calls Try.prog 32 #[.agg #[.int .i64 f, .int .i64 u]] w fun e w' => e = .returned (.bool (decide (spn f u))) ∧ Below w.heap.size w w' := by
  go_enter Try.func32, Try.ntmps32
  go_wp2
  all_goals
    go_ret
    refine ⟨ret_bool ?_, by go_grown⟩
    first | rfl | (apply Bool.eq_iff_iff.2; constructor <;> intro h9 <;> (try simp at *) <;> omega)
set_option maxHeartbeats 1000000 in
theorem Good_any (f u : Int) (w : World) :
    Calls Try.prog 34 #[.agg #[.int .i64 f, .int .i64 u]] w fun e w' => e = .returned (.bool (decide (spn f u))) ∧ Below w.heap.size w w' := by
  go_enter Try.func34, Try.ntmps34
  go_wp2
  all_goals
    go_ret
    refine ⟨ret_bool ?_, by go_grown⟩
    first | rfl | (apply Bool.eq_iff_iff.2; constructor <;> intro h9 <;> (try simp at *) <;> omega)
set_option maxHeartbeats 1000000 in
theorem has_any (f u d : Int) (w : World) :
    Calls Try.prog 30 #[.agg #[.int .i64 f, .int .i64 u], .int .i64 d] w fun e w' => e = .returned (.bool (decide (f ≤ d ∧ d < u))) ∧ Below w.heap.size w w' := by
  go_enter Try.func30, Try.ntmps30
  go_wp2
  all_goals
    go_ret
    refine ⟨ret_bool ?_, by go_grown⟩
    first | rfl | (apply Bool.eq_iff_iff.2; constructor <;> intro h9 <;> (try simp at *) <;> omega)
set_option maxHeartbeats 1000000 in
theorem In_any (f u d : Int) (w : World) :
    Calls Try.prog 31 #[.agg #[.int .i64 f, .int .i64 u], .int .i64 d] w fun e w' => e = .returned (.bool (decide (f ≤ d ∧ d < u))) ∧ Below w.heap.size w w' := by
  go_enter Try.func31, Try.ntmps31
  go_wp2
  all_goals
    go_ret
    refine ⟨ret_bool ?_, by go_grown⟩
    first | rfl | (apply Bool.eq_iff_iff.2; constructor <;> intro h9 <;> (try simp at *) <;> omega)
set_option maxHeartbeats 1000000 in
theorem continues_any (f u v f' u' v' : Int) (w : World) :
    Calls Try.prog 33 #[.agg #[.int .i64 f, .int .i64 u, .int .i64 v], .agg #[.int .i64 f', .int .i64 u', .int .i64 v']] w fun e w' => e = .returned (.bool (decide (u = f' ∧ v = v'))) ∧ Below w.heap.size w w' := by
  by_cases h : u = f'
  · have e : (u == f') = true := bool_eq h
    have H := Lib.hid h
    clear h
    go_enter Try.func33, Try.ntmps33
    go_wp2
    go_ret
    refine ⟨ret_bool ?_, by go_grown⟩
    have := H.out
    first | rfl | (symm; exact decide_eq_false (by omega)) | (symm; exact decide_eq_true (by omega)) | (rw [decide_eq_decide]; omega) | (rw [Bool.eq_iff_iff]; simp; omega)
  · have e : (u == f') = false := bool_ne h
    have H := Lib.hid h
    clear h
    go_enter Try.func33, Try.ntmps33
    go_wp2
    go_ret
    refine ⟨ret_bool ?_, by go_grown⟩
    have := H.out
    first | rfl | (symm; exact decide_eq_false (by omega)) | (symm; exact decide_eq_true (by omega)) | (rw [decide_eq_decide]; omega) | (rw [Bool.eq_iff_iff]; simp; omega)
end Go.Proofs.Ytcgjhbjbfdbfaaa
