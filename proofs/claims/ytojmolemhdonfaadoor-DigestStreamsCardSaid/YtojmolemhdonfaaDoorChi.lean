/-
  What step 3 of a round answers, walked over the program's text. No statement of the seat is proved here.
-/
import Derived.Test.YtojmolemhdonfaaDoorRho
namespace Go.Proofs.YtojmolemhdonfaaDoor
open Go.RowKit Kec
theorem wv_not (x : W) : bits .xor .u64 IntKind.u64.max (wv x) = wv (~~~x) := by
  have hm : IntKind.u64.max = wv (BitVec.allOnes 64) := rfl
  rw [hm, wv_xor, BitVec.allOnes_xor]
theorem wv_not' (x : W) : bits .xor .u64 (if IntKind.u64.signed = true then -1 else IntKind.u64.max) (wv x) = wv (~~~x) := by
  rw [if_neg (by decide)]; exact wv_not x
attribute [local go_sem] wv_xor wv_and wv_not'

set_option maxRecDepth 100000 in
set_option maxHeartbeats 2000000 in
theorem chi_any (f : Nat → W) (w : World) :
    Calls Tryd.prog 23 #[.agg (vec 25 f)] w fun e w' => e = .returned (.agg (vec 25 (chi f))) ∧ Below w.heap.size w w' := by
  go_enter Tryd.func23, Tryd.ntmps23
  go_wp2
  go_loopw [6] (fun i wr => ∃ y : Nat, y ≤ 5 ∧ i = .int .i64 y ∧ Below w.heap.size w wr ∧ w.heap.size + 3 ≤ wr.heap.size ∧ Blk wr w.heap.size 25 23 f ∧ Blk wr (w.heap.size + 1) 25 23 (fun _ => 0) ∧ Blk wr (w.heap.size + 1 + 1) 25 23 (chiTo (fun _ => 0) f y 0)) (fun i _ => 5 - (intOf i).toNat)
  case atStart =>
    rw [zeros25]
    exact ⟨0, by omega, rfl, made3w w f, by simp, made3_0 w f _ _, made3_1 w _ _ _, (made3_2 w _ _ _ _ _).congr fun i _ => (chiTo_zero (fun _ => 0) f i).symm⟩
  case round =>
    obtain ⟨y, hy, rfl, hb, hz, b0, b1, b2⟩ := hrel
    by_cases hlt : y < 5
    · have hy5 : decide ((y : Int) < 5) = true := by simp; omega
      go_wp2
      obtain ⟨wo, rfl⟩ : ∃ wo : World, wo = wr := ⟨_, rfl⟩
      go_loopw [9] (fun i wr => ∃ x : Nat, x ≤ 5 ∧ i = .int .i64 x ∧ Below w.heap.size w wr ∧ w.heap.size + 3 ≤ wr.heap.size ∧ Blk wr w.heap.size 25 23 f ∧ Blk wr (w.heap.size + 1) 25 23 (fun _ => 0) ∧ Blk wr (w.heap.size + 1 + 1) 25 23 (chiTo (fun _ => 0) f y x)) (fun i _ => 5 - (intOf i).toNat)
      case atStart => exact ⟨0, by omega, rfl, hb, hz, b0, b1, b2⟩
      case round =>
        clear hb hz b0 b1 b2
        obtain ⟨x, hx, rfl, hb, hz, b0, b1, b2⟩ := hrel
        by_cases hlt2 : x < 5
        · have c0 := b0.cell (i := x + 5 * y) (by omega)
          have c1 := b0.cell (i := (x + 1) % 5 + 5 * y) (by omega)
          have c2 := b0.cell (i := (x + 2) % 5 + 5 * y) (by omega)
          have c3 := b2.cell (i := x + 5 * y) (by omega)
          have c4 := b2.frozen (x + 5 * y)
          go_wp2
          go_region
          go_wp2
          go_roundw
          case rel =>
            exact ⟨x + 1, by omega, by go_num, (hb.setCell (by simp; omega) _).drew, by simpa using hz, (b0.other (by simp; omega) _).drew, (b1.other (by simp) _).drew, ((b2.store (x + 5 * y) (f (x + 5 * y) ^^^ (~~~ (f ((x + 1) % 5 + 5 * y)) &&& f ((x + 2) % 5 + 5 * y)))).congr fun i _ => chiTo_succ _ f hlt2 i).drew⟩
          case measure => simp [intOf]; omega
        · obtain rfl : x = 5 := by omega
          clear hlt2
          go_wp2
          go_roundw
          case rel => exact ⟨y + 1, by omega, by go_num, hb, hz, b0, b1, b2.congr fun i _ => chiTo_row (fun _ => 0) f y i⟩
          case measure => simp [intOf]; omega
    · obtain rfl : y = 5 := by omega
      clear hlt
      have HB2 := Lib.hid b2; have HB1 := Lib.hid b1
      have HB := Lib.hid (below_setRow hb (by omega : w.heap.size ≤ w.heap.size + 1) (vec 25 (chiTo (fun _ => 0) f 5 0)))
      clear b0 b1 b2 hb
      go_wp2_with (first | (refine load_blk HB2.out rfl _ rfl rfl ?_) | (refine store_blk HB1.out rfl _ _ rfl rfl rfl ?_))
      exact bodyPost_ret (v := .agg (vec 25 (chiTo (fun _ => 0) f 5 0))) (result_blk Tryd.results23 _ rfl (HB1.out.row _)) rfl ⟨ret_vec fun i hi => chiTo_all (fun _ => 0) f i hi, HB.out⟩
end Go.Proofs.YtojmolemhdonfaaDoor
