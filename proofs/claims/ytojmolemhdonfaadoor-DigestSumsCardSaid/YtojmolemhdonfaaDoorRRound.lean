/-
  What the reference's round answers, walked over the program's text. No statement of the seat is proved here.
-/
import Derived.Test.YtojmolemhdonfaaDoorRKec
namespace Go.Proofs.YtojmolemhdonfaaDoor
open Go.RowKit Kec
attribute [local go_sem] wv_xor wv_and wv_not'
theorem idx_mix {k : Nat} (hk : k < 25) :
    IntKind.i64.wrap ((k : Int) + 4) = (k : Int) + 4 ∧ ((k : Int) + 4).tmod 5 = ((k : Int) + 4) % 5 ∧ (0 : Int) ≤ ((k : Int) + 4) % 5 ∧ ((k : Int) + 4) % 5 < 5 ∧ (((k : Int) + 4) % 5).toNat = (k + 4) % 5 ∧
    IntKind.i64.wrap ((k : Int) + 1) = (k : Int) + 1 ∧ ((k : Int) + 1).tmod 5 = ((k : Int) + 1) % 5 ∧ (0 : Int) ≤ ((k : Int) + 1) % 5 ∧ ((k : Int) + 1) % 5 < 5 ∧ (((k : Int) + 1) % 5).toNat = (k + 1) % 5 ∧
    (0 : Int) ≤ (k : Int) ∧ (k : Int) < 25 ∧ ((k : Int)).toNat = k :=
  ⟨IntWalk.i64_in _ (by omega), Int.tmod_eq_emod_of_nonneg (by omega), by omega, by omega, by omega, IntWalk.i64_in _ (by omega), Int.tmod_eq_emod_of_nonneg (by omega), by omega, by omega, by omega, by omega, by omega, by omega⟩
set_option maxRecDepth 100000 in
set_option maxHeartbeats 4000000 in
theorem rround_any (f : Nat → W) (c : W) (w : World) :
    Calls Tryd.prog 28 #[.agg (vec 25 f), .int .u64 (wv c), .agg rotV] w fun e w' => e = .returned (.agg (vec 25 (iota c (chi (rho (theta f)))))) ∧ Below w.heap.size w w' := by
  go_enter Tryd.func28, Tryd.ntmps28
  go_wp2
  go_loopw [8] (fun i wr => ∃ k : Nat, k ≤ 25 ∧ i = .int .i64 k ∧ R4 w f (sumsTo f k) wr) (fun i _ => 25 - (intOf i).toNat)
  case atStart =>
    rw [zeros25, zeros5]
    exact ⟨0, by omega, rfl, R4.made w f⟩
  case round =>
    obtain ⟨k, hk, rfl, hR⟩ := hrel
    by_cases hlt : k < 25
    · have hk25 : decide ((k : Int) < 25) = true := by simp; omega
      have c0 := hR.a.cell (i := k) hlt
      have c1 := hR.s.cell (i := k % 5) (by omega)
      have c2 := hR.s.frozen (k % 5)
      go_wp2
      go_region
      go_wp2
      go_roundw
      case rel => exact ⟨k + 1, by omega, by go_num, (hR.setS (k % 5) (sumsTo f k (k % 5) ^^^ f k)).drew⟩
      case measure => simp [intOf]; omega
    · obtain rfl : k = 25 := by omega
      clear hlt
      have hR1 := (hR.congr (fun _ _ => rfl) (fun i hi => sums_all f i hi)).congr (fun i _ => (thI_zero f i).symm) (fun _ _ => rfl)
      clear hR
      rw [show ((25 : Nat) : Int) = 25 from rfl]
      go_wp2
      obtain ⟨wo, rfl⟩ : ∃ wo : World, wo = wr := ⟨_, rfl⟩
      go_loopw [9] (fun i wr => ∃ k : Nat, k ≤ 25 ∧ i = .int .i64 k ∧ R4 w (thI f k) (col f) wr) (fun i _ => 25 - (intOf i).toNat)
      case atStart => exact ⟨0, by omega, rfl, hR1⟩
      case round =>
        clear hR1
        obtain ⟨k, hk, rfl, hR⟩ := hrel
        by_cases hlt : k < 25
        · have hk25 : decide ((k : Int) < 25) = true := by simp; omega
          have c0 : wr.cell? ⟨w.heap.size, k, none⟩ = some (.int .u64 (wv (f k))) := by rw [hR.a.cell hlt, thI_at]
          have c1 := hR.s.cell (i := (k + 4) % 5) (by omega)
          have c2 := hR.s.cell (i := (k + 1) % 5) (by omega)
          have c3 := hR.a.frozen k
          have HI := Lib.hid (idx_mix hlt)
          have l4 : (k + 4) % 5 < 5 := by omega
          have l1 : (k + 1) % 5 < 5 := by omega
          have hne : w.heap.size + 1 + 1 + 1 ≠ w.heap.size := by omega
          go_wp2_with fail
          obtain ⟨q1, q2, q3, q4, q5, q6, q7, q8, q9, q10, q11, q12, q13⟩ := HI.out
          refine wp_region_held_drew (S := fun w' => Blk w' (w.heap.size + 1 + 1 + 1) 5 58 (col f)) (by kernel_rfl) hR.s (fun hs => ?_)
          refine wpAnyH_take (i := 0) (v := ?_) rfl (by kernel_rfl) (by kernel_rfl) (by kernel_rfl) (fun _ _ _ h => h) (Or.inl ⟨by rfl, ?_⟩) hs ?_
          rotate_left
          · intro wz hz
            go_simp <;> with_reducible rfl
          try simp only [List.getElem_toArray, List.getElem_cons_zero, Act.put, List.setIfInBounds_toArray, List.set_cons_zero, List.set_cons_succ]
          refine wpAnyH_take (i := 1) (v := ?_) rfl (by kernel_rfl) (by kernel_rfl) (by kernel_rfl) (fun _ _ _ h => h) (Or.inl ⟨by rfl, ?_⟩) hs ?_
          rotate_left
          · intro wz hz
            go_simp <;> with_reducible rfl
          try simp only [List.getElem_toArray, List.getElem_cons_succ, List.getElem_cons_zero, Act.put, List.setIfInBounds_toArray, List.set_cons_zero, List.set_cons_succ]
          refine wpAnyH_take (i := 2) (v := ?_) rfl (by kernel_rfl) (by kernel_rfl) (by kernel_rfl) (fun _ _ _ h => h) (Or.inl ⟨by rfl, ?_⟩) hs ?_
          rotate_left
          · intro wz hz
            go_simp <;> with_reducible rfl
          try simp only [List.getElem_toArray, List.getElem_cons_succ, List.getElem_cons_zero, Act.put, List.setIfInBounds_toArray, List.set_cons_zero, List.set_cons_succ]
          refine wpAnyH_take (i := 4) (v := ?_) rfl (by kernel_rfl) (by kernel_rfl) (by kernel_rfl) (fun _ _ _ h => h) (Or.inl ⟨by rfl, ?_⟩) hs ?_
          rotate_left
          · intro wz hz
            go_simp <;> with_reducible rfl
          try simp only [List.getElem_toArray, List.getElem_cons_succ, List.getElem_cons_zero, Act.put, List.setIfInBounds_toArray, List.set_cons_zero, List.set_cons_succ]
          refine wpAnyH_take (i := 5) (v := ?_) rfl (by kernel_rfl) (by kernel_rfl) (by kernel_rfl) (fun _ _ _ h => h) (Or.inl ⟨by rfl, ?_⟩) hs ?_
          rotate_left
          · intro wz hz
            go_simp <;> with_reducible rfl
          try simp only [List.getElem_toArray, List.getElem_cons_succ, List.getElem_cons_zero, Act.put, List.setIfInBounds_toArray, List.set_cons_zero, List.set_cons_succ]
          refine wpAnyH_take (i := 6) (v := ?_) rfl (by kernel_rfl) (by kernel_rfl) (by kernel_rfl) (fun _ _ _ h => h) (Or.inl ⟨by rfl, ?_⟩) hs ?_
          rotate_left
          · intro wz hz
            go_simp <;> with_reducible rfl
          try simp only [List.getElem_toArray, List.getElem_cons_succ, List.getElem_cons_zero, Act.put, List.setIfInBounds_toArray, List.set_cons_zero, List.set_cons_succ]
          refine wpAnyH_take (i := 7) (v := ?_) rfl (by kernel_rfl) (by kernel_rfl) (by kernel_rfl) (fun _ _ _ h => h) (Or.inl ⟨by rfl, ?_⟩) hs ?_
          rotate_left
          · intro wz hz
            go_simp <;> with_reducible rfl
          try simp only [List.getElem_toArray, List.getElem_cons_succ, List.getElem_cons_zero, Act.put, List.setIfInBounds_toArray, List.set_cons_zero, List.set_cons_succ]
          refine wpAnyH_take (i := 8) (v := ?_) rfl (by kernel_rfl) (by kernel_rfl) (by kernel_rfl) (fun _ _ _ h => h) (Or.inl ⟨by rfl, ?_⟩) hs ?_
          rotate_left
          · intro wz hz
            have cz := hz.cell (i := (k + 4) % 5) l4; go_simp <;> with_reducible rfl
          try simp only [List.getElem_toArray, List.getElem_cons_succ, List.getElem_cons_zero, Act.put, List.setIfInBounds_toArray, List.set_cons_zero, List.set_cons_succ]
          refine wpAnyH_take (i := 10) (v := ?_) rfl (by kernel_rfl) (by kernel_rfl) (by kernel_rfl) (fun _ _ _ h => h) (Or.inl ⟨by rfl, ?_⟩) hs ?_
          rotate_left
          · intro wz hz
            go_simp <;> with_reducible rfl
          try simp only [List.getElem_toArray, List.getElem_cons_succ, List.getElem_cons_zero, Act.put, List.setIfInBounds_toArray, List.set_cons_zero, List.set_cons_succ]
          refine wpAnyH_take (i := 11) (v := ?_) rfl (by kernel_rfl) (by kernel_rfl) (by kernel_rfl) (fun _ _ _ h => h) (Or.inl ⟨by rfl, ?_⟩) hs ?_
          rotate_left
          · intro wz hz
            go_simp <;> with_reducible rfl
          try simp only [List.getElem_toArray, List.getElem_cons_succ, List.getElem_cons_zero, Act.put, List.setIfInBounds_toArray, List.set_cons_zero, List.set_cons_succ]
          refine wpAnyH_take (i := 12) (v := ?_) rfl (by kernel_rfl) (by kernel_rfl) (by kernel_rfl) (fun _ _ _ h => h) (Or.inl ⟨by rfl, ?_⟩) hs ?_
          rotate_left
          · intro wz hz
            go_simp <;> with_reducible rfl
          try simp only [List.getElem_toArray, List.getElem_cons_succ, List.getElem_cons_zero, Act.put, List.setIfInBounds_toArray, List.set_cons_zero, List.set_cons_succ]
          refine wpAnyH_take (i := 13) (v := ?_) rfl (by kernel_rfl) (by kernel_rfl) (by kernel_rfl) (fun _ _ _ h => h) (Or.inl ⟨by rfl, ?_⟩) hs ?_
          rotate_left
          · intro wz hz
            go_simp <;> with_reducible rfl
          try simp only [List.getElem_toArray, List.getElem_cons_succ, List.getElem_cons_zero, Act.put, List.setIfInBounds_toArray, List.set_cons_zero, List.set_cons_succ]
          refine wpAnyH_take (i := 14) (v := ?_) rfl (by kernel_rfl) (by kernel_rfl) (by kernel_rfl) (fun _ _ _ h => h) (Or.inl ⟨by rfl, ?_⟩) hs ?_
          rotate_left
          · intro wz hz
            have cz := hz.cell (i := (k + 1) % 5) l1; go_simp <;> with_reducible rfl
          try simp only [List.getElem_toArray, List.getElem_cons_succ, List.getElem_cons_zero, Act.put, List.setIfInBounds_toArray, List.set_cons_zero, List.set_cons_succ]
          refine wpAnyH_ready (rs := [3, 15]) (by kernel_rfl) (by simp) ?_
          refine AllReadyH.cons rfl (fun K hK => ?_) (AllReadyH.cons rfl (fun K hK => ?_) AllReadyH.nil)
          · go_simp
            refine hK.out _ _ hs (fun hs => ?_)
            clear hK K
            try simp only [List.getElem_toArray, List.getElem_cons_succ, List.getElem_cons_zero, Act.put, List.setIfInBounds_toArray, List.set_cons_zero, List.set_cons_succ]
            refine wpAnyH_take (i := 9) (v := ?_) rfl (by kernel_rfl) (by kernel_rfl) (by kernel_rfl) (fun _ _ _ h => h) (Or.inl ⟨by rfl, ?_⟩) hs ?_
            rotate_left
            · intro wz hz
              go_simp <;> with_reducible rfl
            try simp only [List.getElem_toArray, List.getElem_cons_succ, List.getElem_cons_zero, Act.put, List.setIfInBounds_toArray, List.set_cons_zero, List.set_cons_succ]
            refine wpAnyH_ready (rs := [15]) (by kernel_rfl) (by simp) ?_
            refine AllReadyH.cons rfl (fun K hK => ?_) AllReadyH.nil
            go_simp
            go_at_call 34
            refine (rot2_any _ 1 _ (by decide)).mono ?_
            rintro e w1 ⟨rfl, q, rfl⟩
            refine hK.out _ _ (hs.drewN q) (fun hs => ?_)
            clear hK K
            refine wpAnyH_take (i := 16) (v := ?_) rfl (by kernel_rfl) (by kernel_rfl) (by kernel_rfl) (fun _ _ _ h => h) (Or.inl ⟨by rfl, ?_⟩) hs ?_
            rotate_left
            · intro wz hz
              go_simp <;> with_reducible rfl
            try simp only [List.getElem_toArray, List.getElem_cons_succ, List.getElem_cons_zero, Act.put, List.setIfInBounds_toArray, List.set_cons_zero, List.set_cons_succ]
            refine wpAnyH_take (i := 17) (v := ?_) rfl (by kernel_rfl) (by kernel_rfl) (by kernel_rfl) (fun _ _ _ h => h) (Or.inl ⟨by rfl, ?_⟩) hs ?_
            rotate_left
            · intro wz hz
              go_simp <;> with_reducible rfl
            try simp only [List.getElem_toArray, List.getElem_cons_succ, List.getElem_cons_zero, Act.put, List.setIfInBounds_toArray, List.set_cons_zero, List.set_cons_succ]
            refine wpAnyH_ready (rs := [18]) (by kernel_rfl) (by simp) ?_
            refine AllReadyH.cons rfl (fun K hK => ?_) AllReadyH.nil
            go_simp
            refine hK.out _ _ (hs.other (a := ⟨w.heap.size, k, none⟩) hne _) (fun hs => ?_)
            clear hK K
            refine wpAnyH_done (by kernel_rfl) ?_ _
            clear q1 q2 q3 q4 q5 q6 q7 q8 q9 q10 q11 q12 q13
            go_wp2
            go_roundw
            case rel => exact ⟨k + 1, by omega, by go_num, ((hR.drewN _).setA k _).congr (fun i _ => thI_succ f k i) (fun _ _ => rfl)⟩
            case measure => simp [intOf]; omega
          · go_simp
            go_at_call 34
            refine (rot2_any _ 1 _ (by decide)).mono ?_
            rintro e w1 ⟨rfl, q, rfl⟩
            refine hK.out _ _ (hs.drewN q) (fun hs => ?_)
            clear hK K
            refine wpAnyH_ready (rs := [3]) (by kernel_rfl) (by simp) ?_
            refine AllReadyH.cons rfl (fun K hK => ?_) AllReadyH.nil
            go_simp
            refine hK.out _ _ hs (fun hs => ?_)
            clear hK K
            try simp only [List.getElem_toArray, List.getElem_cons_succ, List.getElem_cons_zero, Act.put, List.setIfInBounds_toArray, List.set_cons_zero, List.set_cons_succ]
            refine wpAnyH_take (i := 9) (v := ?_) rfl (by kernel_rfl) (by kernel_rfl) (by kernel_rfl) (fun _ _ _ h => h) (Or.inl ⟨by rfl, ?_⟩) hs ?_
            rotate_left
            · intro wz hz
              go_simp <;> with_reducible rfl
            try simp only [List.getElem_toArray, List.getElem_cons_succ, List.getElem_cons_zero, Act.put, List.setIfInBounds_toArray, List.set_cons_zero, List.set_cons_succ]
            refine wpAnyH_take (i := 16) (v := ?_) rfl (by kernel_rfl) (by kernel_rfl) (by kernel_rfl) (fun _ _ _ h => h) (Or.inl ⟨by rfl, ?_⟩) hs ?_
            rotate_left
            · intro wz hz
              go_simp <;> with_reducible rfl
            try simp only [List.getElem_toArray, List.getElem_cons_succ, List.getElem_cons_zero, Act.put, List.setIfInBounds_toArray, List.set_cons_zero, List.set_cons_succ]
            refine wpAnyH_take (i := 17) (v := ?_) rfl (by kernel_rfl) (by kernel_rfl) (by kernel_rfl) (fun _ _ _ h => h) (Or.inl ⟨by rfl, ?_⟩) hs ?_
            rotate_left
            · intro wz hz
              go_simp <;> with_reducible rfl
            try simp only [List.getElem_toArray, List.getElem_cons_succ, List.getElem_cons_zero, Act.put, List.setIfInBounds_toArray, List.set_cons_zero, List.set_cons_succ]
            refine wpAnyH_ready (rs := [18]) (by kernel_rfl) (by simp) ?_
            refine AllReadyH.cons rfl (fun K hK => ?_) AllReadyH.nil
            go_simp
            refine hK.out _ _ (hs.other (a := ⟨w.heap.size, k, none⟩) hne _) (fun hs => ?_)
            clear hK K
            refine wpAnyH_done (by kernel_rfl) ?_ _
            clear q1 q2 q3 q4 q5 q6 q7 q8 q9 q10 q11 q12 q13
            go_wp2
            go_roundw
            case rel => exact ⟨k + 1, by omega, by go_num, ((hR.drewN _).setA k _).congr (fun i _ => thI_succ f k i) (fun _ _ => rfl)⟩
            case measure => simp [intOf]; omega
        · obtain rfl : k = 25 := by omega
          clear hlt
          have hR2 := hR.congr (fun i hi => thI_all f i hi) (fun _ _ => rfl)
          clear hR
          have HN : Hid (Blk (wr.alloc (.cells (vec 25 fun _ => 0) 23)) wr.heap.size 25 23 fun _ => 0) := Blk.made _ _ _ _
          have HX := Lib.hid hR2.next2
          have HZ := Lib.hid hR2.size
          have HY := Lib.hid zeros25
          clear hR2
          rw [show ((25 : Nat) : Int) = 25 from rfl]
          go_wp2_with (first | (rw [HY.out]; refine store_blk HN.out rfl _ _ rfl rfl rfl ?_))
          rw [HZ.out]
          have hR5 := HX.out.congr (fun _ _ => rfl) (fun i _ => (rhoX_zero (theta f) i).symm)
          clear HX HN HY HZ
          generalize (wr.alloc (Obj.cells (vec 25 fun _ => 0#64) 23)).setRow (w.heap.size + 4) (vec 25 fun _ => 0#64) = wq at *
          go_loopw [11] (fun i wr => ∃ x : Nat, x ≤ 5 ∧ i = .int .i64 x ∧ R5 w (theta f) (rhoX (theta f) x 0) wr) (fun i _ => 5 - (intOf i).toNat)
          case atStart => exact ⟨0, by omega, rfl, hR5⟩
          case round =>
            clear hR5
            obtain ⟨x, hx, rfl, hR⟩ := hrel
            by_cases hlt : x < 5
            · have hx5 : decide ((x : Int) < 5) = true := by simp; omega
              go_wp2
              obtain ⟨wo, rfl⟩ : ∃ wo : World, wo = wr := ⟨_, rfl⟩
              go_loopw [12] (fun i wr => ∃ y : Nat, y ≤ 5 ∧ i = .int .i64 y ∧ R5 w (theta f) (rhoX (theta f) x y) wr) (fun i _ => 5 - (intOf i).toNat)
              case atStart => exact ⟨0, by omega, rfl, hR⟩
              case round =>
                clear hR
                obtain ⟨y, hy, rfl, hR⟩ := hrel
                by_cases hlt2 : y < 5
                · have hy5 : decide ((y : Int) < 5) = true := by simp; omega
                  have c0 := hR.a.cell (i := x + 5 * y) (by omega)
                  have c1 := hR.r.cell (i := x + 5 * y) (by omega)
                  have hd : y + 5 * ((2 * x + 3 * y) % 5) < 25 := by omega
                  have c2 := hR.b.cell (i := y + 5 * ((2 * x + 3 * y) % 5)) hd
                  have c3 := hR.b.frozen (y + 5 * ((2 * x + 3 * y) % 5))
                  have HI := Lib.hid (idx_rho hlt hlt2)
                  have hr := rot_le (i := x + 5 * y) (by omega)
                  have HRR := Lib.hid (fun q => ((hR.drewN q).setB (dst x y) (rotl (theta f (x + 5 * y)) (rot (x + 5 * y)))).congr (fun _ _ => rfl) (fun j hj => rhoX_succ (theta f) hlt hlt2 j hj))
                  have n1 : w.heap.size + 4 ≠ w.heap.size := by omega
                  have n2 : w.heap.size + 4 ≠ w.heap.size + 1 := by omega
                  go_wp2_with fail
                  obtain ⟨q1, q2, q3, q4, q5, q6, q7, q8, q9, q10, q11, q12, q13, q14⟩ := HI.out
                  go_region_held3 (fun w' => w'.cell? ⟨w.heap.size, x + 5 * y, none⟩ = some (.int .u64 (wv (theta f (x + 5 * y)))) ∧ w'.cell? ⟨w.heap.size + 1, x + 5 * y, none⟩ = some (.int .i64 (rot (x + 5 * y) : Nat))) (first | (simp [*, World.cell?_setCell_far]; done)) ((go_at_call 34; refine (rot2_any _ _ _ hr).mono ?_; rintro e w1 ⟨rfl, q, rfl⟩))
                  clear q1 q2 q3 q4 q5 q6 q7 q8 q9 q10 q11 q12 q13 q14
                  go_wp2
                  go_roundw
                  case rel => exact ⟨y + 1, by omega, by go_num, HRR.out _⟩
                  case measure => simp [intOf]; omega
                · obtain rfl : y = 5 := by omega
                  clear hlt2
                  rw [show ((5 : Nat) : Int) = 5 from rfl]
                  go_wp2
                  go_roundw
                  case rel => exact ⟨x + 1, by omega, by go_num, hR.congr (fun _ _ => rfl) (fun j hj => rhoX_col (theta f) x j hj)⟩
                  case measure => simp [intOf]; omega
            · obtain rfl : x = 5 := by omega
              clear hlt
              have hR6 := hR.congr (fun i _ => (chiX_zero (theta f) (rho (theta f)) i).symm) (fun j _ => rhoX_all (theta f) j)
              clear hR
              rw [show ((5 : Nat) : Int) = 5 from rfl]
              go_wp2
              obtain ⟨wo, rfl⟩ : ∃ wo : World, wo = wr := ⟨_, rfl⟩
              go_loopw [13] (fun i wr => ∃ x : Nat, x ≤ 5 ∧ i = .int .i64 x ∧ R5 w (chiX (theta f) (rho (theta f)) x 0) (rho (theta f)) wr) (fun i _ => 5 - (intOf i).toNat)
              case atStart => exact ⟨0, by omega, rfl, hR6⟩
              case round =>
                clear hR6
                obtain ⟨x, hx, rfl, hR⟩ := hrel
                by_cases hlt : x < 5
                · have hx5 : decide ((x : Int) < 5) = true := by simp; omega
                  go_wp2
                  obtain ⟨wo, rfl⟩ : ∃ wo : World, wo = wr := ⟨_, rfl⟩
                  go_loopw [14] (fun i wr => ∃ y : Nat, y ≤ 5 ∧ i = .int .i64 y ∧ R5 w (chiX (theta f) (rho (theta f)) x y) (rho (theta f)) wr) (fun i _ => 5 - (intOf i).toNat)
                  case atStart => exact ⟨0, by omega, rfl, hR⟩
                  case round =>
                    clear hR
                    obtain ⟨y, hy, rfl, hR⟩ := hrel
                    by_cases hlt2 : y < 5
                    · have hy5 : decide ((y : Int) < 5) = true := by simp; omega
                      have c0 := hR.b.cell (i := x + 5 * y) (by omega)
                      have c1 := hR.b.cell (i := (x + 1) % 5 + 5 * y) (by omega)
                      have c2 := hR.b.cell (i := (x + 2) % 5 + 5 * y) (by omega)
                      have c3 := hR.a.cell (i := x + 5 * y) (by omega)
                      have c4 := hR.a.frozen (x + 5 * y)
                      go_wp2
                      go_region
                      go_wp2
                      go_roundw
                      case rel => exact ⟨y + 1, by omega, by go_num, ((hR.setA (x + 5 * y) _).congr (fun i _ => chiX_succ (theta f) (rho (theta f)) hlt i) (fun _ _ => rfl)).drew⟩
                      case measure => simp [intOf]; omega
                    · obtain rfl : y = 5 := by omega
                      clear hlt2
                      rw [show ((5 : Nat) : Int) = 5 from rfl]
                      go_wp2
                      go_roundw
                      case rel => exact ⟨x + 1, by omega, by go_num, hR.congr (fun j hj => chiX_col (theta f) (rho (theta f)) x j hj) (fun _ _ => rfl)⟩
                      case measure => simp [intOf]; omega
                · obtain rfl : x = 5 := by omega
                  clear hlt
                  have hR7 := hR.congr (fun j _ => chiX_all (theta f) (rho (theta f)) j) (fun _ _ => rfl)
                  clear hR
                  have c0 := hR7.a.cell (i := 0) (by omega)
                  have c1 := hR7.a.frozen 0
                  have hR8 := Lib.hid ((hR7.setA 0 (chi (rho (theta f)) 0 ^^^ c)).congr (ga := iota c (chi (rho (theta f)))) (fun i _ => iota_upd _ _ i) (fun _ _ => rfl))
                  clear hR7
                  rw [show ((5 : Nat) : Int) = 5 from rfl]
                  have L0 : Hid _ := Lib.hid hR8.out.a
                  have L1 : Hid _ := Lib.hid hR8.out.res
                  have HB := Lib.hid (below_setRow hR8.out.below (by omega : w.heap.size ≤ w.heap.size + 1 + 1) (vec 25 (iota c (chi (rho (theta f))))))
                  go_wp2_with (first | (refine load_blk L0.out rfl _ rfl rfl ?_) | (refine store_blk L1.out rfl _ _ rfl rfl rfl ?_))
                  exact bodyPost_ret (v := .agg (vec 25 (iota c (chi (rho (theta f)))))) (result_blk Tryd.results28 _ rfl (L1.out.row _)) rfl ⟨rfl, HB.out⟩
end Go.Proofs.YtojmolemhdonfaaDoor
