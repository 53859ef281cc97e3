/-
  What steps 2 and 3 of a round answer, walked over the program's text. No statement of the seat is proved here.
-/
import Derived.Test.YtojmolemhdonfaaDoorMix
import Derived.Deep.RegionWith
namespace Go.Proofs.YtojmolemhdonfaaDoor
open Go.RowKit Kec
attribute [local go_sem] wv_xor wv_and

/-- The two tables of the package. -/
def Rots (w : World) : Prop := ∀ i : Nat, i < 25 → w.cell? ⟨1, i, none⟩ = some (.int .i64 (rot i : Nat))
def Consts (w : World) : Prop := ∀ i : Nat, i < 24 → w.cell? ⟨0, i, none⟩ = some (.int .u64 (wv (rc i)))
theorem Rots.lt {w : World} (h : Rots w) : 1 < w.heap.size := World.block_lt_of_cell? w ⟨1, 0, none⟩ (h 0 (by omega))
theorem Rots.below {w w' : World} {B : Nat} (h : Rots w) (hb : Below B w w') (hB : 1 < B) : Rots w' := fun i hi => (hb.cell (p := ⟨1, i, none⟩) hB).trans (h i hi)
theorem Consts.below {w w' : World} {B : Nat} (h : Consts w) (hb : Below B w w') (hB : 1 < B) : Consts w' := fun i hi => (hb.cell (p := ⟨0, i, none⟩) (by show 0 < B; omega)).trans (h i hi)
theorem rot_le {i : Nat} (h : i < 25) : (rot i : Int) ≤ 63 := by
  have : ∀ i : Fin 25, rot i.1 ≤ 63 := by decide
  have := this ⟨i, h⟩
  simp only at this
  omega
theorem made3w (w : World) (f : Nat → W) : Below w.heap.size w (((w.alloc (.cells (vec 25 f) 23)).alloc (.cells (vec 25 fun _ => 0) 23)).alloc (.cells (vec 25 fun _ => 0) 23)) :=
  (((Below.refl _ _).alloc (Nat.le_refl _) _).alloc (by simp) _).alloc (by simp; omega) _

/-- The sums of a place, as a region that draws its order spells them. -/
theorem idx_rho {x y : Nat} (hx : x < 5) (hy : y < 5) :
    IntKind.i64.wrap (2 * (x : Int)) = 2 * (x : Int) ∧ IntKind.i64.wrap (3 * (y : Int)) = 3 * (y : Int) ∧ IntKind.i64.wrap (2 * (x : Int) + 3 * (y : Int)) = 2 * (x : Int) + 3 * (y : Int) ∧
    (2 * (x : Int) + 3 * (y : Int)).tmod 5 = (2 * (x : Int) + 3 * (y : Int)) % 5 ∧ IntKind.i64.wrap (5 * ((2 * (x : Int) + 3 * (y : Int)) % 5)) = 5 * ((2 * (x : Int) + 3 * (y : Int)) % 5) ∧
    IntKind.i64.wrap ((y : Int) + 5 * ((2 * (x : Int) + 3 * (y : Int)) % 5)) = (y : Int) + 5 * ((2 * (x : Int) + 3 * (y : Int)) % 5) ∧ IntKind.i64.wrap (5 * (y : Int)) = 5 * (y : Int) ∧ IntKind.i64.wrap ((x : Int) + 5 * (y : Int)) = (x : Int) + 5 * (y : Int) ∧
    (0 : Int) ≤ (x : Int) + 5 * (y : Int) ∧ (x : Int) + 5 * (y : Int) < 25 ∧ ((x : Int) + 5 * (y : Int)).toNat = x + 5 * y ∧
    (0 : Int) ≤ (y : Int) + 5 * ((2 * (x : Int) + 3 * (y : Int)) % 5) ∧ (y : Int) + 5 * ((2 * (x : Int) + 3 * (y : Int)) % 5) < 25 ∧ ((y : Int) + 5 * ((2 * (x : Int) + 3 * (y : Int)) % 5)).toNat = y + 5 * ((2 * x + 3 * y) % 5) := by
  refine ⟨IntWalk.i64_in _ (by omega), IntWalk.i64_in _ (by omega), IntWalk.i64_in _ (by omega), Int.tmod_eq_emod_of_nonneg (by omega), IntWalk.i64_in _ (by omega), IntWalk.i64_in _ (by omega), IntWalk.i64_in _ (by omega), IntWalk.i64_in _ (by omega), ?_, ?_, ?_, ?_, ?_,
    (by decide : ∀ x y : Fin 5, ((y.1 : Int) + 5 * ((2 * (x.1 : Int) + 3 * (y.1 : Int)) % 5)).toNat = y.1 + 5 * ((2 * x.1 + 3 * y.1) % 5)) ⟨x, hx⟩ ⟨y, hy⟩⟩ <;> omega

set_option maxRecDepth 100000 in
set_option maxHeartbeats 2000000 in
theorem rho_any (f : Nat → W) (w : World) (hR : Rots w) :
    Calls Tryd.prog 24 #[.agg (vec 25 f)] w fun e w' => e = .returned (.agg (vec 25 (rho f))) ∧ Below w.heap.size w w' := by
  have HR := Lib.hid hR
  clear hR
  go_enter Tryd.func24, Tryd.ntmps24
  go_wp2
  go_loopw [6] (fun i wr => ∃ y : Nat, y ≤ 5 ∧ i = .int .i64 y ∧ Below w.heap.size w wr ∧ w.heap.size + 3 ≤ wr.heap.size ∧ Blk wr w.heap.size 25 23 f ∧ Blk wr (w.heap.size + 1) 25 23 (fun _ => 0) ∧ Blk wr (w.heap.size + 1 + 1) 25 23 (rhoTo f y 0)) (fun i _ => 5 - (intOf i).toNat)
  case atStart =>
    rw [zeros25]
    exact ⟨0, by omega, rfl, made3w w f, by simp, made3_0 w f _ _, made3_1 w _ _ _, (made3_2 w _ _ _ _ _).congr fun i _ => (rhoTo_zero f i).symm⟩
  case round =>
    obtain ⟨y, hy, rfl, hb, hz, b0, b1, b2⟩ := hrel
    by_cases hlt : y < 5
    · have hy5 : decide ((y : Int) < 5) = true := by simp; omega
      go_wp2
      obtain ⟨wo, rfl⟩ : ∃ wo : World, wo = wr := ⟨_, rfl⟩
      go_loopw [9] (fun i wr => ∃ x : Nat, x ≤ 5 ∧ i = .int .i64 x ∧ Below w.heap.size w wr ∧ w.heap.size + 3 ≤ wr.heap.size ∧ Blk wr w.heap.size 25 23 f ∧ Blk wr (w.heap.size + 1) 25 23 (fun _ => 0) ∧ Blk wr (w.heap.size + 1 + 1) 25 23 (rhoTo f y x)) (fun i _ => 5 - (intOf i).toNat)
      case atStart => exact ⟨0, by omega, rfl, hb, hz, b0, b1, b2⟩
      case round =>
        clear hb hz b0 b1 b2
        obtain ⟨x, hx, rfl, hb, hz, b0, b1, b2⟩ := hrel
        by_cases hlt2 : x < 5
        · have c0 := b0.cell (i := x + 5 * y) (by omega)
          have c1 : wr.cell? ⟨1, x + 5 * y, none⟩ = some (.int .i64 (rot (x + 5 * y) : Nat)) := (HR.out.below hb HR.out.lt) _ (by omega)
          have hd : y + 5 * ((2 * x + 3 * y) % 5) < 25 := by omega
          have c2 := b2.cell (i := y + 5 * ((2 * x + 3 * y) % 5)) hd
          have c3 := b2.frozen (y + 5 * ((2 * x + 3 * y) % 5))
          have HI := Lib.hid (idx_rho hlt2 hlt)
          have hr := rot_le (i := x + 5 * y) (by omega)
          go_wp2
          obtain ⟨q1, q2, q3, q4, q5, q6, q7, q8, q9, q10, q11, q12, q13, q14⟩ := HI.out
          go_region_with ((go_at_call 33; refine (rot_any _ _ _ hr).mono ?_; rintro e w' ⟨rfl, rfl⟩))
          all_goals
            clear q1 q2 q3 q4 q5 q6 q7 q8 q9 q10 q11 q12 q13 q14
            go_wp2
            go_roundw
            case rel =>
              have e1 := hb.setCell (p := ⟨w.heap.size + 1 + 1, y + 5 * ((2 * x + 3 * y) % 5), none⟩) (by show _ ≤ w.heap.size + 1 + 1; omega) (.int .u64 (wv (rotl (f (x + 5 * y)) (rot (x + 5 * y)))))
              have e2 := b0.other (a := ⟨w.heap.size + 1 + 1, y + 5 * ((2 * x + 3 * y) % 5), none⟩) (by show _ ≠ w.heap.size + 1 + 1; omega) (.int .u64 (wv (rotl (f (x + 5 * y)) (rot (x + 5 * y)))))
              have e3 := b1.other (a := ⟨w.heap.size + 1 + 1, y + 5 * ((2 * x + 3 * y) % 5), none⟩) (by show _ ≠ w.heap.size + 1 + 1; omega) (.int .u64 (wv (rotl (f (x + 5 * y)) (rot (x + 5 * y)))))
              have e4 := (b2.store (dst x y) (rotl (f (x + 5 * y)) (rot (x + 5 * y)))).congr fun j hj => rhoTo_succ f hlt2 hlt j hj
              have ez : w.heap.size + 3 ≤ (wr.setCell ⟨w.heap.size + 1 + 1, y + 5 * ((2 * x + 3 * y) % 5), none⟩ (.int .u64 (wv (rotl (f (x + 5 * y)) (rot (x + 5 * y)))))).drew.heap.size := by simpa using hz
              exact ⟨x + 1, by omega, by go_num, e1.drew, ez, e2.drew, e3.drew, e4.drew⟩
            case measure => simp [intOf]; omega
        · obtain rfl : x = 5 := by omega
          clear hlt2
          go_wp2
          go_roundw
          case rel => exact ⟨y + 1, by omega, by go_num, hb, hz, b0, b1, b2.congr fun i _ => rhoTo_row f y i⟩
          case measure => simp [intOf]; omega
    · obtain rfl : y = 5 := by omega
      clear hlt
      have HB2 := Lib.hid b2; have HB1 := Lib.hid b1
      have HB := Lib.hid (below_setRow hb (by omega : w.heap.size ≤ w.heap.size + 1) (vec 25 (rhoTo f 5 0)))
      clear b0 b1 b2 hb
      go_wp2_with (first | (refine load_blk HB2.out rfl _ rfl rfl ?_) | (refine store_blk HB1.out rfl _ _ rfl rfl rfl ?_))
      exact bodyPost_ret (v := .agg (vec 25 (rhoTo f 5 0))) (result_blk Tryd.results24 _ rfl (HB1.out.row _)) rfl ⟨ret_vec fun i _ => rhoTo_all f i, HB.out⟩
end Go.Proofs.YtojmolemhdonfaaDoor
