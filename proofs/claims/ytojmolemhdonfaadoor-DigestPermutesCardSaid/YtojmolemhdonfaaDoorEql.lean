/-
  When two states are equal, as the program asks it. No statement of the seat is proved here.
-/
import Derived.Test.YtojmolemhdonfaaDoorPerm
import Derived.ChangeKeysEq
namespace Go.Proofs.YtojmolemhdonfaaDoor
open Go.RowKit Kec

/-- Whether two states have the same words. -/
def vecEq (f g : Nat → W) : Bool := (List.range 25).all fun i => f i == g i
theorem vecEq_iff (f g : Nat → W) : vecEq f g = true ↔ ∀ i, i < 25 → f i = g i := by
  simp [vecEq]
theorem cells22' : Tryd.prog.cellsOf 22 = 1 := by kernel_rfl
theorem info22 : ∃ i, Tryd.prog.info? 22 = some i := by
  have h : (Tryd.prog.info? 22).isSome = true := by kernel_rfl
  exact Option.isSome_iff_exists.1 h
theorem part_vec (f : Nat → W) (i : Nat) (hi : i < 25) (w : World) : (part 22 (vec 25 f) (i * 1)).run Tryd.prog w = .ok (.int .u64 (wv (f i))) w := by
  simp [part, isAgg, run_underlying Tryd.underlying22, vec_get f hi]
theorem items_vec (f g : Nat → W) (w : World) : ∀ is : List Nat, (∀ i ∈ is, i < 25) → (Op.eqItems 9999 22 1 (vec 25 f) (vec 25 g) is).run Tryd.prog w = .ok (is.all fun i => f i == g i) w := by
  intro is
  induction is with
  | nil => intro _; simp [Op.eqItems]
  | cons i is ih =>
    intro h
    have hi := h i (List.mem_cons_self ..)
    have ih' := ih (fun j hj => h j (List.mem_cons_of_mem _ hj))
    have he : (Op.equalIn 9999 22 (.int .u64 (wv (f i))) (.int .u64 (wv (g i)))).run Tryd.prog w = .ok (f i == g i) w := by
      rw [run_equalIn_int w 9998 22 .u64 .u64 _ _ Tryd.underlying22]
      congr 1
      rw [Bool.eq_iff_iff]
      simp only [beq_iff_eq]
      constructor
      · intro e
        first | exact wv_inj e | exact wv_inj (by simpa using e)
      · intro e; rw [e]
    simp only [Op.eqItems, Sem.run_bind, part_vec f i hi, part_vec g i hi, Result.andThen_ok, he, List.all_cons]
    cases hb : (f i == g i)
    · simp
    · simpa using ih'
theorem run_eql_vec (f g : Nat → W) (w : World) : (Op.equalIn 10000 23 (.agg (vec 25 f)) (.agg (vec 25 g))).run Tryd.prog w = .ok (vecEq f g) w := by
  obtain ⟨i, hi⟩ := info22
  rw [run_equalIn_array w 9999 (vec 25 f) (vec 25 g) Tryd.underlying23 hi, cells22']
  exact items_vec f g w _ (fun i hi => by simpa using hi)
end Go.Proofs.YtojmolemhdonfaaDoor
