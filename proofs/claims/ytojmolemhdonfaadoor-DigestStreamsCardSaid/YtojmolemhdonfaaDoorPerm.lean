/-
  What Permute answers, walked over the program's text. No statement of the seat is proved here.
-/
import Derived.Test.YtojmolemhdonfaaDoorChi
namespace Go.Proofs.YtojmolemhdonfaaDoor
open Go.RowKit Kec
attribute [local go_sem] wv_xor

theorem iota_upd (c : W) (f : Nat → W) (i : Nat) : upd f 0 (f 0 ^^^ c) i = iota c f i := rfl
theorem made2 (w : World) (f : Nat → W) : Below w.heap.size w ((w.alloc (.cells (vec 25 f) 23)).alloc (.cells (vec 25 fun _ => 0) 23)) :=
  ((Below.refl _ _).alloc (Nat.le_refl _) _).alloc (by simp) _
theorem made2_0 (w : World) (f : Nat → W) (o1 : Obj) : Blk ((w.alloc (.cells (vec 25 f) 23)).alloc o1) w.heap.size 25 23 f := (Blk.made _ _ _ _).alloc _
theorem made2_1 (w : World) (o0 : Obj) (n : Nat) (t : TypeId) (f : Nat → W) : Blk ((w.alloc o0).alloc (.cells (vec n f) t)) (w.heap.size + 1) n t f := by
  have h := Blk.made (w.alloc o0) n t f
  rwa [World.size_alloc] at h

set_option maxRecDepth 100000 in
set_option maxHeartbeats 2000000 in
theorem perm_any (f : Nat → W) (w : World) (hR : Rots w) (hC : Consts w) :
    Calls Tryd.prog 11 #[.agg (vec 25 f)] w fun e w' => e = .returned (.agg (vec 25 (perm f))) ∧ Below w.heap.size w w' := by
  have HR := Lib.hid hR
  have HC := Lib.hid hC
  have Hlt := Lib.hid hR.lt
  clear hR hC
  go_enter Tryd.func11, Tryd.ntmps11
  go_wp2
  go_loopw [4] (fun i wr => ∃ k : Nat, k ≤ 24 ∧ i = .int .i64 k ∧ Below w.heap.size w wr ∧ w.heap.size + 2 ≤ wr.heap.size ∧ Blk wr w.heap.size 25 23 (rounds k f) ∧ Blk wr (w.heap.size + 1) 25 23 (fun _ => 0)) (fun i _ => 24 - (intOf i).toNat)
  case atStart =>
    rw [zeros25]
    exact ⟨0, by omega, rfl, made2 w f, by simp, made2_0 w f _, made2_1 w _ _ _ _⟩
  case round =>
    obtain ⟨k, hk, rfl, hb, hz, b0, b1⟩ := hrel
    by_cases hlt : k < 24
    · have HB := Lib.hid hb; have HB0 := Lib.hid b0; have HB1 := Lib.hid b1
      have hk' : (k : Int) < 24 := by omega
      have hk24 : decide ((k : Int) < 24) = true := by simp; omega
      clear hb b0 b1
      go_wp2_with (refine load_blk HB0.out rfl _ rfl rfl ?_)
      refine (mix_any _ wr).mono ?_
      rintro e w1 ⟨rfl, hb1⟩
      have R1 := Lib.hid ((HR.out.below HB.out Hlt.out).below hb1 (by have := Hlt.out; omega))
      have N1 := Lib.hid hb1
      clear hb1
      go_wp2_with fail
      refine (rho_any _ w1 R1.out).mono ?_
      rintro e w2 ⟨rfl, hb2⟩
      have N2 := Lib.hid (N1.out.trans (hb2.mono N1.out.size))
      clear hb2
      go_wp2_with fail
      refine (chi_any _ w2).mono ?_
      rintro e w3 ⟨rfl, hb3⟩
      have N3 := Lib.hid (N2.out.trans (hb3.mono N2.out.size))
      clear hb3
      have B3 := Lib.hid (HB0.out.below N3.out (by omega))
      have B4 := Lib.hid ((HB1.out.below N3.out (by omega)).rowOther (c := w.heap.size) (by omega) (vec 25 (chi (rho (theta (rounds k f))))))
      have B5 := Lib.hid (B3.out.row (chi (rho (theta (rounds k f)))))
      have N5 := Lib.hid (below_setRow (HB.out.trans (N3.out.mono (by omega))) (Nat.le_refl w.heap.size) (vec 25 (chi (rho (theta (rounds k f))))))
      have z5 : w.heap.size + 2 ≤ (w3.setRow w.heap.size (vec 25 (chi (rho (theta (rounds k f)))))).heap.size := by have := N3.out.size; rw [size_setRow]; omega
      have Z5 := Lib.hid z5
      have c0 := B5.out.cell (i := 0) (by omega)
      have c1 := B5.out.frozen 0
      have c2 : (w3.setRow w.heap.size (vec 25 (chi (rho (theta (rounds k f)))))).cell? ⟨0, k, none⟩ = some (.int .u64 (wv (rc k))) := (HC.out.below N5.out Hlt.out) k hlt
      clear z5
      go_wp2_with (refine store_blk B3.out rfl _ _ rfl rfl rfl ?_)
      go_region
      all_goals go_wp2
      all_goals exact ⟨⟨k + 1, by omega, by go_num, (N5.out.setCell (p := ⟨w.heap.size, 0, none⟩) (Nat.le_refl _) _).drew, by simpa using Z5.out, ((B5.out.store 0 (chi (rho (theta (rounds k f))) 0 ^^^ rc k)).congr fun i _ => iota_upd _ _ i).drew, (B4.out.other (a := ⟨w.heap.size, 0, none⟩) (by show _ ≠ w.heap.size; omega) _).drew⟩, by simp [intOf]; omega⟩
    · obtain rfl : k = 24 := by omega
      clear hlt
      have HB0 := Lib.hid b0; have HB1 := Lib.hid b1
      have HB := Lib.hid (below_setRow hb (by omega : w.heap.size ≤ w.heap.size + 1) (vec 25 (rounds 24 f)))
      clear b0 b1 hb
      go_wp2_with (first | (refine load_blk HB0.out rfl _ rfl rfl ?_) | (refine store_blk HB1.out rfl _ _ rfl rfl rfl ?_))
      exact bodyPost_ret (v := .agg (vec 25 (rounds 24 f))) (result_blk Tryd.results11 _ rfl (HB1.out.row _)) rfl ⟨rfl, HB.out⟩
end Go.Proofs.YtojmolemhdonfaaDoor
