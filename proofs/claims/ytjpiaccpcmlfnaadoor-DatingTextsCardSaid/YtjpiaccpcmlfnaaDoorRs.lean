/-
  What wordReader and readers answer. No statement of the seat is proved here.
-/
import Derived.Test.YtjpiaccpcmlfnaaDoorMem
import Derived.Laws.EntriesVeiled
namespace Go.Proofs.YtjpiaccpcmlfnaaDoor
open Go.RowKit Cal

theorem cell_at {w : World} {k : Nat} {v : Value} {t : TypeId} (h : k = w.heap.size) : (w.alloc (.cells #[v] t)).cell? ⟨k, 0, none⟩ = some v := by
  subst h; rw [World.cell?_alloc_new]; rfl

/-- The value of a reader made of a word and a function. -/
def wR (k : Nat) : Value := .func (.func 77) #[] #[.pointer (some ⟨k, 0, none⟩), .pointer (some ⟨k + 1, 0, none⟩)]
set_option maxHeartbeats 1000000 in
theorem wordReader_is (p : ByteArray) (f : Nat) (w : World) :
    Calls Tryd.prog 62 #[.string p, .func (.func f) #[] #[]] w fun e w' => e = .returned (wR w.heap.size) ∧ w'.cell? ⟨w.heap.size, 0, none⟩ = some (.string p) ∧ w'.cell? ⟨w.heap.size + 1, 0, none⟩ = some (.func (.func f) #[] #[]) ∧ w.heap.size + 1 < w'.heap.size ∧ Below w.heap.size w w' := by
  go_enter Tryd.func62, Tryd.ntmps62
  go_wp2
  go_ret
  refine ⟨rfl, ?_, cell_at (by simp), by simp, by go_grown⟩
  exact (World.cell?_alloc_lt _ _ ⟨w.heap.size, 0, none⟩ (by simp)).trans (cell_at rfl)

set_option maxHeartbeats 2000000 in
theorem readers_is (w : World) :
    Calls Tryd.prog 43 #[] w fun e w' => ∃ k j : Nat, e = .returned (.agg #[.func (.func 60) #[] #[], .func (.func 61) #[] #[], wR k, wR j, .func (.func 65) #[] #[]]) ∧
      w'.cell? ⟨k, 0, none⟩ = some (.string { data := #[98, 101, 102, 111, 114, 101, 32] }) ∧ w'.cell? ⟨k + 1, 0, none⟩ = some (.func (.func 63) #[] #[]) ∧
      w'.cell? ⟨j, 0, none⟩ = some (.string { data := #[97, 102, 116, 101, 114, 32] }) ∧ w'.cell? ⟨j + 1, 0, none⟩ = some (.func (.func 64) #[] #[]) ∧ Below w.heap.size w w' := by
  go_enter Tryd.func43, Tryd.ntmps43
  go_wp2_with fail
  refine (wordReader_is _ 63 _).mono ?_
  rintro e w1 ⟨rfl, a1, a2, z1, hb1⟩
  go_wp2_with fail
  refine (wordReader_is _ 64 _).mono ?_
  rintro e w2 ⟨rfl, b1, b2, z2, hb2⟩
  have hz := hb1.size
  simp at hz a1 a2 z1
  have c1 := (hb2.cell (p := ⟨w.heap.size + 1, 0, none⟩) (by simp; omega)).trans a1
  have c2 := (hb2.cell (p := ⟨w.heap.size + 1 + 1, 0, none⟩) (by simp; omega)).trans a2
  have hB : Below w.heap.size w w2 := (((Below.refl _ w).alloc (Nat.le_refl _) _).trans (hb1.mono (by simp))).trans (hb2.mono (by omega))
  have N : Hid (HoldsN 5 w2 w.heap.size (fun i => [Value.nilFunc, Value.nilFunc, Value.nilFunc, Value.nilFunc, Value.nilFunc].getD i undef)) := ((HoldsN.new w [Value.nilFunc, Value.nilFunc, Value.nilFunc, Value.nilFunc, Value.nilFunc] 58 5 rfl).below hb1 (by simp)).below hb2 (by omega)
  have d0 := N.out.cell 0 (by omega); have f0 := N.out.frozen 0 (by omega)
  have d1 := N.out.cell 1 (by omega); have f1 := N.out.frozen 1 (by omega)
  have d2 := N.out.cell 2 (by omega); have f2 := N.out.frozen 2 (by omega)
  have d3 := N.out.cell 3 (by omega); have f3 := N.out.frozen 3 (by omega)
  have d4 := N.out.cell 4 (by omega); have f4 := N.out.frozen 4 (by omega)
  have E1 := Lib.hid c1; have E2 := Lib.hid c2; have E3 := Lib.hid b1; have E4 := Lib.hid b2
  have BB := Lib.hid hB
  have n1 : Hid (w1.heap.size ≠ w.heap.size) := by show w1.heap.size ≠ w.heap.size; omega
  have n2 : Hid (w1.heap.size + 1 ≠ w.heap.size) := by show w1.heap.size + 1 ≠ w.heap.size; omega
  clear hb1 hb2 hB c1 c2 b1 b2 a1 a2 hz z1 z2
  unfold wR
  go_wp2
  obtain ⟨q0, q1, q2, q3, q4⟩ := put5 N.out (.func (.func 60) #[] #[]) (.func (.func 61) #[] #[]) (wR (w.heap.size + 1)) (wR w1.heap.size) (.func (.func 65) #[] #[])
  unfold wR at q0 q1 q2 q3 q4
  clear d0 d1 d2 d3 d4 f0 f1 f2 f3 f4
  refine bodyPost_ret (by simp [results, Tryd.results43, go_sem, q0, q1, q2, q3, q4, wR] <;> rfl) rfl ⟨w.heap.size + 1, w1.heap.size, rfl, put5_other _ _ _ _ _ (by omega) E1.out, put5_other _ _ _ _ _ (by omega) E2.out, put5_other _ _ _ _ _ n1.out E3.out, put5_other _ _ _ _ _ n2.out E4.out, put5_below BB.out (Nat.le_refl _) _ _ _ _ _⟩
end Go.Proofs.YtjpiaccpcmlfnaaDoor
