/-
  The notes of a file for which a closure answers true; the greatest of notes. No statement of the seat is proved here.
-/
import Derived.Test.YtbjbioiggjhknaaDoorFi
namespace Go.Proofs.YtbjbioiggjhknaaDoor
open Go Go.RowKit

/-- A file. -/
structure Fil where
  id : Int
  of : Int
  op : Int
  cl : Int
  c : ByteArray
  t : ByteArray
  pt : Int
  np : Option Addr
  nc : Nat
  ns : List Nt
def Fil.cells (x : Fil) : Array Value := #[.int .i64 x.id, .int .i64 x.of, .int .i64 x.op, .int .i64 x.cl, .string x.c, .string x.t, .int .i64 x.pt, .slice x.np x.ns.length x.nc]
def Fil.val (x : Fil) : Value := .agg x.cells
structure FilAt (w : World) (b o : Nat) (x : Fil) : Prop where
  c0 : w.cell? ⟨b, o, none⟩ = some (.int .i64 x.id)
  c1 : w.cell? ⟨b, o + 1, none⟩ = some (.int .i64 x.of)
  c2 : w.cell? ⟨b, o + 2, none⟩ = some (.int .i64 x.op)
  c3 : w.cell? ⟨b, o + 3, none⟩ = some (.int .i64 x.cl)
  c4 : w.cell? ⟨b, o + 4, none⟩ = some (.string x.c)
  c5 : w.cell? ⟨b, o + 5, none⟩ = some (.string x.t)
  c6 : w.cell? ⟨b, o + 6, none⟩ = some (.int .i64 x.pt)
  c7 : w.cell? ⟨b, o + 7, none⟩ = some (.slice x.np x.ns.length x.nc)
theorem FilAt.next {w w' : World} {b o : Nat} {x : Fil} (h : FilAt w b o x) (hb : Below w.heap.size w w') : FilAt w' b o x :=
  ⟨cell_next h.c0 hb, cell_next h.c1 hb, cell_next h.c2 hb, cell_next h.c3 hb, cell_next h.c4 hb, cell_next h.c5 hb, cell_next h.c6 hb, cell_next h.c7 hb⟩
theorem fil_new (w : World) (x : Fil) (t : TypeId) : FilAt (w.alloc (.cells x.cells t)) w.heap.size 0 x :=
  ⟨World.cell?_alloc_new w _ t 0, World.cell?_alloc_new w _ t 1, World.cell?_alloc_new w _ t 2, World.cell?_alloc_new w _ t 3, World.cell?_alloc_new w _ t 4, World.cell?_alloc_new w _ t 5, World.cell?_alloc_new w _ t 6, World.cell?_alloc_new w _ t 7⟩

theorem nt_news (w : World) (x : Nt) (t : TypeId) : ∀ j u, x.cells[j]? = some u → (w.alloc (.cells x.cells.toArray t)).cell? ((⟨w.heap.size, 0, none⟩ : Addr).add j) = some u := fun j u h => by
  rw [Addr.add_lit, Nat.zero_add, World.cell?_alloc_new]
  simpa using h
theorem nt_one (x : Nt) : ∀ u ∈ x.cells, u.oneCell' = true := by
  intro v hv
  simp only [Nt.cells, List.mem_cons, List.not_mem_nil, or_false] at hv
  rcases hv with h | h | h | h <;> subst h <;> rfl
theorem nt_new (w : World) (x : Nt) (t : TypeId) : NtAt (w.alloc (.cells #[.string x.s, .int .i64 x.a, .int .i64 x.b, .int .i64 x.r] t)) w.heap.size 0 x :=
  ⟨World.cell?_alloc_new w _ t 0, World.cell?_alloc_new w _ t 1, World.cell?_alloc_new w _ t 2, World.cell?_alloc_new w _ t 3⟩

end Go.Proofs.YtbjbioiggjhknaaDoor
