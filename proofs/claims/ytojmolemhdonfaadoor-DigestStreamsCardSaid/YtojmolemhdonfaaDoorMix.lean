/-
  What the rotations and step 1 of a round answer, walked over the program's text. No statement of the seat is proved here.
-/
import Derived.Test.YtojmolemhdonfaaDoorVec
import Derived.BigRegion
import Derived.Deep.QuietTactic
import Derived.BigQuiet
import Derived.Laws.CopyOwn
import Derived.WalkSmall
namespace Go.Proofs.YtojmolemhdonfaaDoor
open Go.RowKit Kec
attribute [local go_sem] wv_xor

set_option maxHeartbeats 400000 in
theorem rot_same (x : W) (n : Nat) (w : World) (h : (n : Int) ≤ 63) :
    Calls Tryd.prog 33 #[.int .u64 (wv x), .int .i64 n] w fun e w' => e = .returned (.int .u64 (wv (rotl x n))) ∧ w' = w := by
  have h0 := wv_lo x
  have h63 := and63 n h
  have HR := Lib.hid (wv_rotl x n)
  go_enter Tryd.func33, Tryd.ntmps33
  go_wp2
  go_ret
  exact ⟨ret_u64 HR.out, rfl⟩
theorem rot_any (x : W) (n : Nat) (w : World) (h : (n : Int) ≤ 63) :
    Calls Tryd.prog 33 #[.int .u64 (wv x), .int .i64 n] w fun e w' => e = .returned (.int .u64 (wv (rotl x n))) ∧ w = w' :=
  (rot_same x n w h).mono fun _ _ ⟨he, hw⟩ => ⟨he, hw.symm⟩
set_option maxHeartbeats 400000 in
theorem rot2_any (x : W) (n : Nat) (w : World) (h : (n : Int) ≤ 63) :
    Calls Tryd.prog 34 #[.int .u64 (wv x), .int .i64 n] w fun e w' => e = .returned (.int .u64 (wv (rotl x n))) ∧ ∃ q, w' = w.drewN q := by
  have h0 := wv_lo x
  have HR := Lib.hid (wv_rotl x n)
  go_enter Tryd.func34, Tryd.ntmps34
  go_wp2
  go_region
  go_wp2
  go_ret
  exact ⟨ret_u64 HR.out, 1, rfl⟩

theorem rot1_same (x : W) (w : World) : Calls Tryd.prog 33 #[.int .u64 (wv x), .int .i64 1] w fun e w' => e = .returned (.int .u64 (wv (rotl x 1))) ∧ w' = w := rot_same x 1 w (by decide)
theorem made3 (w : World) (f : Nat → W) : Below w.heap.size w (((w.alloc (.cells (vec 25 f) 23)).alloc (.cells (vec 25 fun _ => 0) 23)).alloc (.cells (vec 5 fun _ => 0) 58)) :=
  (((Below.refl _ _).alloc (Nat.le_refl _) _).alloc (by simp) _).alloc (by simp; omega) _
theorem made3_0 (w : World) (f : Nat → W) (o1 o2 : Obj) : Blk (((w.alloc (.cells (vec 25 f) 23)).alloc o1).alloc o2) w.heap.size 25 23 f := ((Blk.made _ _ _ _).alloc _).alloc _
theorem made3_1 (w : World) (o0 o2 : Obj) (f : Nat → W) : Blk (((w.alloc o0).alloc (.cells (vec 25 f) 23)).alloc o2) (w.heap.size + 1) 25 23 f := by
  have h := (Blk.made (w.alloc o0) 25 23 f).alloc o2
  rwa [World.size_alloc] at h
theorem made3_2 (w : World) (o0 o1 : Obj) (n : Nat) (t : TypeId) (f : Nat → W) : Blk (((w.alloc o0).alloc o1).alloc (.cells (vec n f) t)) (w.heap.size + 1 + 1) n t f := by
  have h := Blk.made ((w.alloc o0).alloc o1) n t f
  rwa [World.size_alloc, World.size_alloc] at h

set_option maxRecDepth 100000 in
set_option maxHeartbeats 2000000 in
theorem mix_any (f : Nat → W) (w : World) :
    Calls Tryd.prog 25 #[.agg (vec 25 f)] w fun e w' => e = .returned (.agg (vec 25 (theta f))) ∧ Below w.heap.size w w' := by
  go_enter Tryd.func25, Tryd.ntmps25
  go_wp2
  go_loopw [8] (fun i wr => ∃ k : Nat, k ≤ 5 ∧ i = .int .i64 k ∧ Below w.heap.size w wr ∧ w.heap.size + 3 ≤ wr.heap.size ∧ Blk wr w.heap.size 25 23 f ∧ Blk wr (w.heap.size + 1) 25 23 (fun _ => 0) ∧ Blk wr (w.heap.size + 1 + 1) 5 58 (colTo f k)) (fun i _ => 5 - (intOf i).toNat)
  case atStart =>
    rw [zeros25, zeros5]
    exact ⟨0, by omega, rfl, made3 w f, by simp, made3_0 w f _ _, made3_1 w _ _ _, (made3_2 w _ _ _ _ _).congr fun i _ => (colTo_zero f i).symm⟩
  case round =>
    obtain ⟨k, hk, rfl, hb, hz, b0, b1, b2⟩ := hrel
    by_cases hlt : k < 5
    · have c0 := b0.cell (i := k) (by omega)
      have c1 := b0.cell (i := k + 5) (by omega)
      have c2 := b0.cell (i := k + 10) (by omega)
      have c3 := b0.cell (i := k + 15) (by omega)
      have c4 := b0.cell (i := k + 20) (by omega)
      have c5 := b2.cell (i := k) (by omega)
      have c6 := b2.frozen k
      go_wp2
      go_region
      go_wp2
      go_roundw
      case rel =>
        exact ⟨k + 1, by omega, by go_num, (hb.setCell (by simp; omega) _).drew, by simpa using hz, (b0.other (by simp; omega) _).drew, (b1.other (by simp) _).drew, ((b2.store k (col f k)).congr fun i _ => colTo_succ f k i).drew⟩
      case measure => simp [intOf]; omega
    · obtain rfl : k = 5 := by omega
      clear hlt
      go_wp2
      obtain ⟨wo, rfl⟩ : ∃ wo : World, wo = wr := ⟨_, rfl⟩
      go_loopw [37] (fun i wr => ∃ x : Nat, x ≤ 5 ∧ i = .int .i64 x ∧ Below w.heap.size w wr ∧ w.heap.size + 3 ≤ wr.heap.size ∧ Blk wr w.heap.size 25 23 (thTo f x 0) ∧ Blk wr (w.heap.size + 1) 25 23 (fun _ => 0) ∧ Blk wr (w.heap.size + 1 + 1) 5 58 (colTo f 5)) (fun i _ => 5 - (intOf i).toNat)
      case atStart => exact ⟨0, by omega, rfl, hb, hz, b0.congr fun i _ => (thTo_zero f i).symm, b1, b2⟩
      case round =>
        clear hb hz b0 b1 b2
        obtain ⟨x, hx, rfl, hb, hz, b0, b1, b2⟩ := hrel
        by_cases hlt : x < 5
        · have c0 : wr.cell? ⟨w.heap.size + 1 + 1, (x + 4) % 5, none⟩ = some (.int .u64 (wv (col f ((x + 4) % 5)))) := by
            rw [b2.cell (by omega), colTo_at f (by omega)]
          have c1 : wr.cell? ⟨w.heap.size + 1 + 1, (x + 1) % 5, none⟩ = some (.int .u64 (wv (col f ((x + 1) % 5)))) := by
            rw [b2.cell (by omega), colTo_at f (by omega)]
          go_wp2
          go_quiet ((go_at_call 33; exact Calls.quiet_of_same (rot1_same _ _)))
          go_wp2
          obtain ⟨wp, hwp⟩ : ∃ wp : World, wp = wr.drewN nq := ⟨_, rfl⟩
          have hb' : Below w.heap.size w wp := by rw [hwp]; exact below_drewN hb nq
          have hz' : w.heap.size + 3 ≤ wp.heap.size := by rw [hwp]; exact hz
          have b0' : Blk wp w.heap.size 25 23 (thTo f x 0) := by rw [hwp]; exact b0.drewN nq
          have b1' : Blk wp (w.heap.size + 1) 25 23 (fun _ => 0) := by rw [hwp]; exact b1.drewN nq
          have b2' : Blk wp (w.heap.size + 1 + 1) 5 58 (colTo f 5) := by rw [hwp]; exact b2.drewN nq
          rw [← hwp]
          clear hwp c0 c1 hb hz b0 b1 b2
          go_loopw [52] (fun i wr => ∃ y : Nat, y ≤ 5 ∧ i = .int .i64 y ∧ Below w.heap.size w wr ∧ w.heap.size + 3 ≤ wr.heap.size ∧ Blk wr w.heap.size 25 23 (thTo f x y) ∧ Blk wr (w.heap.size + 1) 25 23 (fun _ => 0) ∧ Blk wr (w.heap.size + 1 + 1) 5 58 (colTo f 5)) (fun i _ => 5 - (intOf i).toNat)
          case atStart => exact ⟨0, by omega, rfl, hb', hz', b0', b1', b2'⟩
          case round =>
            clear hb' hz' b0' b1' b2'
            obtain ⟨y, hy, rfl, hb, hz, b0, b1, b2⟩ := hrel
            by_cases hlt2 : y < 5
            · have c0 : wr.cell? ⟨w.heap.size, x + 5 * y, none⟩ = some (.int .u64 (wv (f (x + 5 * y)))) := by
                rw [b0.cell (by omega), thTo_at f hlt]
              have c1 := b0.frozen (x + 5 * y)
              go_wp2
              go_roundw
              case rel =>
                exact ⟨y + 1, by omega, by go_num, hb.setCell (by simp) _, by simpa using hz, (b0.store (x + 5 * y) (f (x + 5 * y) ^^^ dd f x)).congr fun i _ => thTo_succ f hlt i, b1.other (by simp) _, b2.other (by simp; omega) _⟩
              case measure => simp [intOf]; omega
            · obtain rfl : y = 5 := by omega
              clear hlt2
              go_wp2
              go_roundw
              case rel => exact ⟨x + 1, by omega, by go_num, hb, hz, b0.congr fun i hi => thTo_row f x i hi, b1, b2⟩
              case measure => simp [intOf]; omega
        · obtain rfl : x = 5 := by omega
          clear hlt
          have HB0 := Lib.hid b0; have HB1 := Lib.hid b1
          have HB := Lib.hid (below_setRow hb (by omega : w.heap.size ≤ w.heap.size + 1) (vec 25 (thTo f 5 0)))
          clear b0 b1 b2 hb
          go_wp2_with (first | (refine load_blk HB0.out rfl _ rfl rfl ?_) | (refine store_blk HB1.out rfl _ _ rfl rfl rfl ?_))
          exact bodyPost_ret (v := .agg (vec 25 (thTo f 5 0))) (result_blk Tryd.results25 _ rfl (HB1.out.row _)) rfl ⟨ret_vec fun i _ => thTo_all f i, HB.out⟩
end Go.Proofs.YtojmolemhdonfaaDoor
