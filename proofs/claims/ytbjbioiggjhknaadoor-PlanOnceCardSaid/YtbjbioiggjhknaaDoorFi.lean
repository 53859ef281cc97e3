/-
  Files: the comparison of the ends of notes, the small functions. No statement of the seat is proved here.
-/
import Derived.Test.YtbjbioiggjhknaaDoorFo
namespace Go.Proofs.YtbjbioiggjhknaaDoor
open Go Go.RowKit

def cmpI (u v : Int) : Int := if u < v then -1 else if v < u then 1 else 0
theorem Cmp_any (u v : Int) (w : World) : Calls Tryd.prog 65 #[.int .i64 u, .int .i64 v] w fun e w' => e = .returned (.int .i64 (cmpI u v)) ∧ w' = w := by
  refine (Tryd.cmp_Compare_int u v w).mono ?_
  rintro e w' ⟨rfl, rfl⟩
  refine ⟨ret_int ?_, rfl⟩
  unfold cmpI
  first | rfl | (split <;> split <;> omega)

def Nt.val (x : Nt) : Value := .agg #[.string x.s, .int .i64 x.a, .int .i64 x.b, .int .i64 x.r]
def ends (x y : Nt) : Int := if cmpI x.b y.b = 0 then cmpI x.a y.a else cmpI x.b y.b
theorem ends_pos (x y : Nt) : decide (ends x y > 0) = gt2 x y := by
  unfold ends gt2 cmpI
  rw [decide_eq_decide]
  split <;> split <;> (try split) <;> (try split) <;> (try split) <;> omega

theorem hold4g {w w' : World} {b1 b2 b3 b4 o1 o2 o3 o4 : Nat} {v1 v2 v3 v4 : Value} (h : w.cell? ⟨b1, o1, none⟩ = some v1 ∧ w.cell? ⟨b2, o2, none⟩ = some v2 ∧ w.cell? ⟨b3, o3, none⟩ = some v3 ∧ w.cell? ⟨b4, o4, none⟩ = some v4) (hb : Below w.heap.size w w') :
    w'.cell? ⟨b1, o1, none⟩ = some v1 ∧ w'.cell? ⟨b2, o2, none⟩ = some v2 ∧ w'.cell? ⟨b3, o3, none⟩ = some v3 ∧ w'.cell? ⟨b4, o4, none⟩ = some v4 :=
  ⟨cell_next h.1 hb, cell_next h.2.1 hb, cell_next h.2.2.1 hb, cell_next h.2.2.2 hb⟩
theorem below_or {V w : World} {o : Obj} (h : Below (V.alloc o).drew.heap.size (V.alloc o).drew w) : Below V.heap.size V w :=
  (((Below.refl _ _).alloc (Nat.le_refl _) _).drew).trans (h.mono (by show V.heap.size ≤ (V.alloc o).heap.size; simp))
end Go.Proofs.YtbjbioiggjhknaaDoor
