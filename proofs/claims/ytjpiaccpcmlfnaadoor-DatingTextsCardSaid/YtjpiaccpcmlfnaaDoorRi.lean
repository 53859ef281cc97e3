/-
  The reference's Parse: a pair, or a period alone. No statement of the seat is proved here.
-/
import Derived.Test.YtjpiaccpcmlfnaaDoorRh
namespace Go.Proofs.YtjpiaccpcmlfnaaDoor
open Go.RowKit Cal
open Classical

set_option maxHeartbeats 4000000 in
theorem refParse_per (s : ByteArray) (w : World) (uk : (s.toList == [117, 110, 107, 110, 111, 119, 110]) = false) (hb : s.size ≤ 1000)
    (n7 : 7 < s.size → ((s.extract 0 7).toList == [98, 101, 102, 111, 114, 101, 32]) = false) (n6 : 6 < s.size → ((s.extract 0 6).toList == [97, 102, 116, 101, 114, 32]) = false)
    (hno : ∀ k (h : k < s.size), s[k] ≠ 47) (F L E : Int) (c : ∀ w, Calls Tryd.prog 44 #[.string s] w fun e w' => e = AnsR F L E ∧ Below w.heap.size w w') :
    Calls Tryd.prog 27 #[.string s] w fun e w' => e = AnsR F L E ∧ Below w.heap.size w w' := by
  have C := Lib.hid c; have HNO := Lib.hid hno
  clear c hno
  have hcase : ∃ c6 c7, decide ((s.size : Int) > 7) = c7 ∧ decide ((s.size : Int) > 6) = c6 ∧ ((c7 = true ∧ c6 = true ∧ ((s.extract 0 7).toList == [98, 101, 102, 111, 114, 101, 32]) = false ∧ ((s.extract 0 6).toList == [97, 102, 116, 101, 114, 32]) = false) ∨ (c7 = false ∧ c6 = true ∧ ((s.extract 0 6).toList == [97, 102, 116, 101, 114, 32]) = false) ∨ (c7 = false ∧ c6 = false)) := by
    refine ⟨_, _, rfl, rfl, ?_⟩
    by_cases k7 : 7 < s.size
    · exact .inl ⟨by rw [decide_eq_true_iff]; omega, by rw [decide_eq_true_iff]; omega, n7 k7, n6 (by omega)⟩
    · by_cases k6 : 6 < s.size
      · exact .inr (.inl ⟨by rw [decide_eq_false_iff_not]; omega, by rw [decide_eq_true_iff]; omega, n6 k6⟩)
      · exact .inr (.inr ⟨by rw [decide_eq_false_iff_not]; omega, by rw [decide_eq_false_iff_not]; omega⟩)
  clear n7 n6
  obtain ⟨c6, c7, q7, q6, hc⟩ := hcase
  rcases hc with ⟨rfl, rfl, z7, z6⟩ | ⟨rfl, rfl, z6⟩ | ⟨rfl, rfl⟩
  · have le7 : 7 ≤ s.size := by have := of_decide_eq_true q7; omega
    have le6 : 6 ≤ s.size := by omega
    go_enter Tryd.func27, Tryd.ntmps27
    go_wp2_with fail
    have Z0 := Lib.hid (Z2.new w (.int .i64 0) (.int .i64 0) 23)
    have B0 := Lib.hid ((Below.refl w.heap.size w).alloc (Nat.le_refl _) (.cells #[.int .i64 0, .int .i64 0] 23))
    go_loopw [8] (fun i wr => ∃ j : Nat, j ≤ s.size ∧ i = .int .i64 j ∧ Z2 wr w.heap.size (.int .i64 0) (.int .i64 0) ∧ Below w.heap.size w wr) (fun i _ => s.size + 1 - (intOf i).toNat)
    case atStart => exact ⟨0, Nat.zero_le _, rfl, Z0.out, B0.out⟩
    case round =>
      obtain ⟨j, hj, rfl, hz, hbe⟩ := hrel
      have ZZ := Lib.hid hz; have BB := Lib.hid hbe
      clear hz hbe Z0 B0
      by_cases hlt : j < s.size
      · have hjs : j < s.size := by omega
        have e1 : ((s[j].toNat : Int) == 47) = false := by
          rw [beq_eq_false_iff_ne]; intro h; exact HNO.out j hjs (by rw [← UInt8.toNat_inj]; show s[j].toNat = 47; omega)
        go_wp2_with fail
        go_roundw
        case rel => exact ⟨j + 1, by omega, by go_num, ZZ.out, BB.out⟩
        case measure => simp [intOf]; omega
      · obtain rfl : j = s.size := by omega
        go_wp2_with fail
        refine (C.out _).mono ?_
        rintro e w2 ⟨rfl, hb2⟩
        obtain ⟨k0, k1, k2, k3, _⟩ := ZZ.out.below hb2
        have B2 := Lib.hid (BB.out.trans (hb2.mono BB.out.size))
        clear hb2
        go_wp2
        refine bodyPost_ret (by simp [results, Tryd.results27, go_sem, set20 k0, set21 k1] <;> rfl) rfl ⟨rfl, ?_⟩
        exact (B2.out.setCell (p := ⟨w.heap.size, 0, none⟩) (Nat.le_refl _) _).setCell (p := ⟨w.heap.size, 1, none⟩) (Nat.le_refl _) _
  · have le6 : 6 ≤ s.size := by have := of_decide_eq_true q6; omega
    go_enter Tryd.func27, Tryd.ntmps27
    go_wp2_with fail
    have Z0 := Lib.hid (Z2.new w (.int .i64 0) (.int .i64 0) 23)
    have B0 := Lib.hid ((Below.refl w.heap.size w).alloc (Nat.le_refl _) (.cells #[.int .i64 0, .int .i64 0] 23))
    go_loopw [8] (fun i wr => ∃ j : Nat, j ≤ s.size ∧ i = .int .i64 j ∧ Z2 wr w.heap.size (.int .i64 0) (.int .i64 0) ∧ Below w.heap.size w wr) (fun i _ => s.size + 1 - (intOf i).toNat)
    case atStart => exact ⟨0, Nat.zero_le _, rfl, Z0.out, B0.out⟩
    case round =>
      obtain ⟨j, hj, rfl, hz, hbe⟩ := hrel
      have ZZ := Lib.hid hz; have BB := Lib.hid hbe
      clear hz hbe Z0 B0
      by_cases hlt : j < s.size
      · have hjs : j < s.size := by omega
        have e1 : ((s[j].toNat : Int) == 47) = false := by
          rw [beq_eq_false_iff_ne]; intro h; exact HNO.out j hjs (by rw [← UInt8.toNat_inj]; show s[j].toNat = 47; omega)
        go_wp2_with fail
        go_roundw
        case rel => exact ⟨j + 1, by omega, by go_num, ZZ.out, BB.out⟩
        case measure => simp [intOf]; omega
      · obtain rfl : j = s.size := by omega
        go_wp2_with fail
        refine (C.out _).mono ?_
        rintro e w2 ⟨rfl, hb2⟩
        obtain ⟨k0, k1, k2, k3, _⟩ := ZZ.out.below hb2
        have B2 := Lib.hid (BB.out.trans (hb2.mono BB.out.size))
        clear hb2
        go_wp2
        refine bodyPost_ret (by simp [results, Tryd.results27, go_sem, set20 k0, set21 k1] <;> rfl) rfl ⟨rfl, ?_⟩
        exact (B2.out.setCell (p := ⟨w.heap.size, 0, none⟩) (Nat.le_refl _) _).setCell (p := ⟨w.heap.size, 1, none⟩) (Nat.le_refl _) _
  · go_enter Tryd.func27, Tryd.ntmps27
    go_wp2_with fail
    have Z0 := Lib.hid (Z2.new w (.int .i64 0) (.int .i64 0) 23)
    have B0 := Lib.hid ((Below.refl w.heap.size w).alloc (Nat.le_refl _) (.cells #[.int .i64 0, .int .i64 0] 23))
    go_loopw [8] (fun i wr => ∃ j : Nat, j ≤ s.size ∧ i = .int .i64 j ∧ Z2 wr w.heap.size (.int .i64 0) (.int .i64 0) ∧ Below w.heap.size w wr) (fun i _ => s.size + 1 - (intOf i).toNat)
    case atStart => exact ⟨0, Nat.zero_le _, rfl, Z0.out, B0.out⟩
    case round =>
      obtain ⟨j, hj, rfl, hz, hbe⟩ := hrel
      have ZZ := Lib.hid hz; have BB := Lib.hid hbe
      clear hz hbe Z0 B0
      by_cases hlt : j < s.size
      · have hjs : j < s.size := by omega
        have e1 : ((s[j].toNat : Int) == 47) = false := by
          rw [beq_eq_false_iff_ne]; intro h; exact HNO.out j hjs (by rw [← UInt8.toNat_inj]; show s[j].toNat = 47; omega)
        go_wp2_with fail
        go_roundw
        case rel => exact ⟨j + 1, by omega, by go_num, ZZ.out, BB.out⟩
        case measure => simp [intOf]; omega
      · obtain rfl : j = s.size := by omega
        go_wp2_with fail
        refine (C.out _).mono ?_
        rintro e w2 ⟨rfl, hb2⟩
        obtain ⟨k0, k1, k2, k3, _⟩ := ZZ.out.below hb2
        have B2 := Lib.hid (BB.out.trans (hb2.mono BB.out.size))
        clear hb2
        go_wp2
        refine bodyPost_ret (by simp [results, Tryd.results27, go_sem, set20 k0, set21 k1] <;> rfl) rfl ⟨rfl, ?_⟩
        exact (B2.out.setCell (p := ⟨w.heap.size, 0, none⟩) (Nat.le_refl _) _).setCell (p := ⟨w.heap.size, 1, none⟩) (Nat.le_refl _) _

set_option maxHeartbeats 4000000 in
theorem refParse_slashB (s : ByteArray) (w : World) (uk : (s.toList == [117, 110, 107, 110, 111, 119, 110]) = false) (hb : s.size ≤ 1000)
    (n7 : 7 < s.size → ((s.extract 0 7).toList == [98, 101, 102, 111, 114, 101, 32]) = false) (n6 : 6 < s.size → ((s.extract 0 6).toList == [97, 102, 116, 101, 114, 32]) = false)
    (m : Nat) (hm : m < s.size) (h47 : s[m] = 47) (hno : ∀ k (h : k < s.size), k < m → s[k] ≠ 47) (x y : ByteArray) (hx : s.extract 0 m = x) (hy : s.extract (m + 1) s.size = y) (F1 L1 E1 F2 L2 E2 : Int)
    (c : ∀ w, Calls Tryd.prog 44 #[.string x] w fun e w' => e = AnsR F1 L1 E1 ∧ Below w.heap.size w w') (c' : ∀ w, Calls Tryd.prog 44 #[.string y] w fun e w' => e = AnsR F2 L2 E2 ∧ Below w.heap.size w w') (W : Int) (hW : W ≠ 0) (cw : ∀ w, Calls Tryd.prog 46 #[.int .i64 E1, .int .i64 E2] w fun e w' => e = .returned (.int .i64 W) ∧ w = w') :
    Calls Tryd.prog 27 #[.string s] w fun e w' => e = AnsR 0 0 W ∧ Below w.heap.size w w' := by
  have C := Lib.hid c; have HNO := Lib.hid hno
  have C' := Lib.hid c'; have CW := Lib.hid cw; have HX := Lib.hid hx; have HY := Lib.hid hy; have H47 := Lib.hid h47
  clear c c' cw hx hy hno h47
  have nw1 : (W == 0) = false := bool_ne hW
  have nw2 : (W != 0) = true := by unfold bne; rw [nw1]; rfl
  clear hW
  have hcase : ∃ c6 c7, decide ((s.size : Int) > 7) = c7 ∧ decide ((s.size : Int) > 6) = c6 ∧ ((c7 = true ∧ c6 = true ∧ ((s.extract 0 7).toList == [98, 101, 102, 111, 114, 101, 32]) = false ∧ ((s.extract 0 6).toList == [97, 102, 116, 101, 114, 32]) = false) ∨ (c7 = false ∧ c6 = true ∧ ((s.extract 0 6).toList == [97, 102, 116, 101, 114, 32]) = false) ∨ (c7 = false ∧ c6 = false)) := by
    refine ⟨_, _, rfl, rfl, ?_⟩
    by_cases k7 : 7 < s.size
    · exact .inl ⟨by rw [decide_eq_true_iff]; omega, by rw [decide_eq_true_iff]; omega, n7 k7, n6 (by omega)⟩
    · by_cases k6 : 6 < s.size
      · exact .inr (.inl ⟨by rw [decide_eq_false_iff_not]; omega, by rw [decide_eq_true_iff]; omega, n6 k6⟩)
      · exact .inr (.inr ⟨by rw [decide_eq_false_iff_not]; omega, by rw [decide_eq_false_iff_not]; omega⟩)
  clear n7 n6
  obtain ⟨c6, c7, q7, q6, hc⟩ := hcase
  rcases hc with ⟨rfl, rfl, z7, z6⟩ | ⟨rfl, rfl, z6⟩ | ⟨rfl, rfl⟩
  · have le7 : 7 ≤ s.size := by have := of_decide_eq_true q7; omega
    have le6 : 6 ≤ s.size := by omega
    go_enter Tryd.func27, Tryd.ntmps27
    go_wp2_with fail
    have Z0 := Lib.hid (Z2.new w (.int .i64 0) (.int .i64 0) 23)
    have B0 := Lib.hid ((Below.refl w.heap.size w).alloc (Nat.le_refl _) (.cells #[.int .i64 0, .int .i64 0] 23))
    go_loopw [8] (fun i wr => ∃ j : Nat, j ≤ m ∧ i = .int .i64 j ∧ Z2 wr w.heap.size (.int .i64 0) (.int .i64 0) ∧ Below w.heap.size w wr) (fun i _ => s.size + 1 - (intOf i).toNat)
    case atStart => exact ⟨0, Nat.zero_le _, rfl, Z0.out, B0.out⟩
    case round =>
      obtain ⟨j, hj, rfl, hz, hbe⟩ := hrel
      have ZZ := Lib.hid hz; have BB := Lib.hid hbe
      clear hz hbe Z0 B0
      by_cases hlt : j < m
      · have hjs : j < s.size := by omega
        have e1 : ((s[j].toNat : Int) == 47) = false := by
          rw [beq_eq_false_iff_ne]; intro h; exact HNO.out j hjs hlt (by rw [← UInt8.toNat_inj]; show s[j].toNat = 47; omega)
        go_wp2_with fail
        go_roundw
        case rel => exact ⟨j + 1, by omega, by go_num, ZZ.out, BB.out⟩
        case measure => simp [intOf]; omega
      · obtain rfl : j = m := by omega
        have e1 : ((s[j].toNat : Int) == 47) = true := by rw [H47.out]; rfl
        have i1 : (0 : Int) ≤ (j : Int) := by omega
        have i2 : (j : Int) ≤ (s.size : Int) := by omega
        have i3 : (0 : Int) ≤ (j : Int) + 1 := by omega
        have i4 : (j : Int) + 1 ≤ (s.size : Int) := by omega
        have i5 : ((j : Int) + 1).toNat = j + 1 := by omega
        go_wp2_with fail
        try rw [HX.out]
        refine (C.out _).mono ?_
        rintro e w2 ⟨rfl, hb2⟩
        have Z2' := Lib.hid (ZZ.out.below hb2)
        have B2 := Lib.hid (BB.out.trans (hb2.mono BB.out.size))
        clear hb2
        go_wp2_with fail
        try rw [HY.out]
        refine (C'.out _).mono ?_
        rintro e w3 ⟨rfl, hb3⟩
        have Z3 := Lib.hid ((Z2'.out.alloc (.cells #[.int .i64 F1, .int .i64 L1] 23)).below hb3)
        have X3 := Lib.hid ((Z2.new w2 (.int .i64 F1) (.int .i64 L1) 23).below hb3)
        have B3 := Lib.hid ((B2.out.alloc B2.out.size (.cells #[.int .i64 F1, .int .i64 L1] 23)).trans (hb3.mono (by have := B2.out.size; simp; omega)))
        clear hb3
        go_wp2_with fail
        refine (CW.out _).mono ?_
        rintro e w4 ⟨rfl, rfl⟩
        go_wp2_with fail
        refine (CW.out _).mono ?_
        rintro e w4 ⟨rfl, rfl⟩
        obtain ⟨n0, n1, n2, n3, _⟩ := Z3.out
        have q := res2' (x := .int .i64 0) (y := .int .i64 0) (.cells #[.int .i64 F2, .int .i64 L2] 23) n0 n1
        go_wp2
        refine bodyPost_ret (by simp [results, Tryd.results27, go_sem, q.1, q.2] <;> rfl) rfl ⟨rfl, ?_⟩
        first
          | exact B3.out.alloc B3.out.size _
          | (have B4 := (B3.out.setCell (p := ⟨w.heap.size, 0, none⟩) (Nat.le_refl _) (.int .i64 0)).setCell (p := ⟨w.heap.size, 1, none⟩) (Nat.le_refl _) (.int .i64 0); exact B4.alloc B4.size _)
          | exact ((B3.out.alloc B3.out.size _).setCell (p := ⟨w.heap.size, 0, none⟩) (Nat.le_refl _) _).setCell (p := ⟨w.heap.size, 1, none⟩) (Nat.le_refl _) _
  · have le6 : 6 ≤ s.size := by have := of_decide_eq_true q6; omega
    go_enter Tryd.func27, Tryd.ntmps27
    go_wp2_with fail
    have Z0 := Lib.hid (Z2.new w (.int .i64 0) (.int .i64 0) 23)
    have B0 := Lib.hid ((Below.refl w.heap.size w).alloc (Nat.le_refl _) (.cells #[.int .i64 0, .int .i64 0] 23))
    go_loopw [8] (fun i wr => ∃ j : Nat, j ≤ m ∧ i = .int .i64 j ∧ Z2 wr w.heap.size (.int .i64 0) (.int .i64 0) ∧ Below w.heap.size w wr) (fun i _ => s.size + 1 - (intOf i).toNat)
    case atStart => exact ⟨0, Nat.zero_le _, rfl, Z0.out, B0.out⟩
    case round =>
      obtain ⟨j, hj, rfl, hz, hbe⟩ := hrel
      have ZZ := Lib.hid hz; have BB := Lib.hid hbe
      clear hz hbe Z0 B0
      by_cases hlt : j < m
      · have hjs : j < s.size := by omega
        have e1 : ((s[j].toNat : Int) == 47) = false := by
          rw [beq_eq_false_iff_ne]; intro h; exact HNO.out j hjs hlt (by rw [← UInt8.toNat_inj]; show s[j].toNat = 47; omega)
        go_wp2_with fail
        go_roundw
        case rel => exact ⟨j + 1, by omega, by go_num, ZZ.out, BB.out⟩
        case measure => simp [intOf]; omega
      · obtain rfl : j = m := by omega
        have e1 : ((s[j].toNat : Int) == 47) = true := by rw [H47.out]; rfl
        have i1 : (0 : Int) ≤ (j : Int) := by omega
        have i2 : (j : Int) ≤ (s.size : Int) := by omega
        have i3 : (0 : Int) ≤ (j : Int) + 1 := by omega
        have i4 : (j : Int) + 1 ≤ (s.size : Int) := by omega
        have i5 : ((j : Int) + 1).toNat = j + 1 := by omega
        go_wp2_with fail
        try rw [HX.out]
        refine (C.out _).mono ?_
        rintro e w2 ⟨rfl, hb2⟩
        have Z2' := Lib.hid (ZZ.out.below hb2)
        have B2 := Lib.hid (BB.out.trans (hb2.mono BB.out.size))
        clear hb2
        go_wp2_with fail
        try rw [HY.out]
        refine (C'.out _).mono ?_
        rintro e w3 ⟨rfl, hb3⟩
        have Z3 := Lib.hid ((Z2'.out.alloc (.cells #[.int .i64 F1, .int .i64 L1] 23)).below hb3)
        have X3 := Lib.hid ((Z2.new w2 (.int .i64 F1) (.int .i64 L1) 23).below hb3)
        have B3 := Lib.hid ((B2.out.alloc B2.out.size (.cells #[.int .i64 F1, .int .i64 L1] 23)).trans (hb3.mono (by have := B2.out.size; simp; omega)))
        clear hb3
        go_wp2_with fail
        refine (CW.out _).mono ?_
        rintro e w4 ⟨rfl, rfl⟩
        go_wp2_with fail
        refine (CW.out _).mono ?_
        rintro e w4 ⟨rfl, rfl⟩
        obtain ⟨n0, n1, n2, n3, _⟩ := Z3.out
        have q := res2' (x := .int .i64 0) (y := .int .i64 0) (.cells #[.int .i64 F2, .int .i64 L2] 23) n0 n1
        go_wp2
        refine bodyPost_ret (by simp [results, Tryd.results27, go_sem, q.1, q.2] <;> rfl) rfl ⟨rfl, ?_⟩
        first
          | exact B3.out.alloc B3.out.size _
          | (have B4 := (B3.out.setCell (p := ⟨w.heap.size, 0, none⟩) (Nat.le_refl _) (.int .i64 0)).setCell (p := ⟨w.heap.size, 1, none⟩) (Nat.le_refl _) (.int .i64 0); exact B4.alloc B4.size _)
          | exact ((B3.out.alloc B3.out.size _).setCell (p := ⟨w.heap.size, 0, none⟩) (Nat.le_refl _) _).setCell (p := ⟨w.heap.size, 1, none⟩) (Nat.le_refl _) _
  · go_enter Tryd.func27, Tryd.ntmps27
    go_wp2_with fail
    have Z0 := Lib.hid (Z2.new w (.int .i64 0) (.int .i64 0) 23)
    have B0 := Lib.hid ((Below.refl w.heap.size w).alloc (Nat.le_refl _) (.cells #[.int .i64 0, .int .i64 0] 23))
    go_loopw [8] (fun i wr => ∃ j : Nat, j ≤ m ∧ i = .int .i64 j ∧ Z2 wr w.heap.size (.int .i64 0) (.int .i64 0) ∧ Below w.heap.size w wr) (fun i _ => s.size + 1 - (intOf i).toNat)
    case atStart => exact ⟨0, Nat.zero_le _, rfl, Z0.out, B0.out⟩
    case round =>
      obtain ⟨j, hj, rfl, hz, hbe⟩ := hrel
      have ZZ := Lib.hid hz; have BB := Lib.hid hbe
      clear hz hbe Z0 B0
      by_cases hlt : j < m
      · have hjs : j < s.size := by omega
        have e1 : ((s[j].toNat : Int) == 47) = false := by
          rw [beq_eq_false_iff_ne]; intro h; exact HNO.out j hjs hlt (by rw [← UInt8.toNat_inj]; show s[j].toNat = 47; omega)
        go_wp2_with fail
        go_roundw
        case rel => exact ⟨j + 1, by omega, by go_num, ZZ.out, BB.out⟩
        case measure => simp [intOf]; omega
      · obtain rfl : j = m := by omega
        have e1 : ((s[j].toNat : Int) == 47) = true := by rw [H47.out]; rfl
        have i1 : (0 : Int) ≤ (j : Int) := by omega
        have i2 : (j : Int) ≤ (s.size : Int) := by omega
        have i3 : (0 : Int) ≤ (j : Int) + 1 := by omega
        have i4 : (j : Int) + 1 ≤ (s.size : Int) := by omega
        have i5 : ((j : Int) + 1).toNat = j + 1 := by omega
        go_wp2_with fail
        try rw [HX.out]
        refine (C.out _).mono ?_
        rintro e w2 ⟨rfl, hb2⟩
        have Z2' := Lib.hid (ZZ.out.below hb2)
        have B2 := Lib.hid (BB.out.trans (hb2.mono BB.out.size))
        clear hb2
        go_wp2_with fail
        try rw [HY.out]
        refine (C'.out _).mono ?_
        rintro e w3 ⟨rfl, hb3⟩
        have Z3 := Lib.hid ((Z2'.out.alloc (.cells #[.int .i64 F1, .int .i64 L1] 23)).below hb3)
        have X3 := Lib.hid ((Z2.new w2 (.int .i64 F1) (.int .i64 L1) 23).below hb3)
        have B3 := Lib.hid ((B2.out.alloc B2.out.size (.cells #[.int .i64 F1, .int .i64 L1] 23)).trans (hb3.mono (by have := B2.out.size; simp; omega)))
        clear hb3
        go_wp2_with fail
        refine (CW.out _).mono ?_
        rintro e w4 ⟨rfl, rfl⟩
        go_wp2_with fail
        refine (CW.out _).mono ?_
        rintro e w4 ⟨rfl, rfl⟩
        obtain ⟨n0, n1, n2, n3, _⟩ := Z3.out
        have q := res2' (x := .int .i64 0) (y := .int .i64 0) (.cells #[.int .i64 F2, .int .i64 L2] 23) n0 n1
        go_wp2
        refine bodyPost_ret (by simp [results, Tryd.results27, go_sem, q.1, q.2] <;> rfl) rfl ⟨rfl, ?_⟩
        first
          | exact B3.out.alloc B3.out.size _
          | (have B4 := (B3.out.setCell (p := ⟨w.heap.size, 0, none⟩) (Nat.le_refl _) (.int .i64 0)).setCell (p := ⟨w.heap.size, 1, none⟩) (Nat.le_refl _) (.int .i64 0); exact B4.alloc B4.size _)
          | exact ((B3.out.alloc B3.out.size _).setCell (p := ⟨w.heap.size, 0, none⟩) (Nat.le_refl _) _).setCell (p := ⟨w.heap.size, 1, none⟩) (Nat.le_refl _) _

set_option maxHeartbeats 4000000 in
theorem refParse_slashG (s : ByteArray) (w : World) (uk : (s.toList == [117, 110, 107, 110, 111, 119, 110]) = false) (hb : s.size ≤ 1000)
    (n7 : 7 < s.size → ((s.extract 0 7).toList == [98, 101, 102, 111, 114, 101, 32]) = false) (n6 : 6 < s.size → ((s.extract 0 6).toList == [97, 102, 116, 101, 114, 32]) = false)
    (m : Nat) (hm : m < s.size) (h47 : s[m] = 47) (hno : ∀ k (h : k < s.size), k < m → s[k] ≠ 47) (x y : ByteArray) (hx : s.extract 0 m = x) (hy : s.extract (m + 1) s.size = y) (F1 L1 E1 F2 L2 E2 : Int)
    (c : ∀ w, Calls Tryd.prog 44 #[.string x] w fun e w' => e = AnsR F1 L1 E1 ∧ Below w.heap.size w w') (c' : ∀ w, Calls Tryd.prog 44 #[.string y] w fun e w' => e = AnsR F2 L2 E2 ∧ Below w.heap.size w w') (cw : ∀ w, Calls Tryd.prog 46 #[.int .i64 E1, .int .i64 E2] w fun e w' => e = .returned (.int .i64 0) ∧ w = w') :
    Calls Tryd.prog 27 #[.string s] w fun e w' => e = AnsR (if okD F1 L2 then F1 else 0) (if okD F1 L2 then L2 else 0) (if okD F1 L2 then 0 else 2) ∧ Below w.heap.size w w' := by
  have C := Lib.hid c; have HNO := Lib.hid hno
  have D := Lib.hid (fun w => refSpan_any F1 L2 w)
  obtain ⟨X, hX⟩ : ∃ X, X = if okD F1 L2 then F1 else 0 := ⟨_, rfl⟩
  obtain ⟨Y, hY⟩ : ∃ Y, Y = if okD F1 L2 then L2 else 0 := ⟨_, rfl⟩
  obtain ⟨Z, hZ⟩ : ∃ Z, Z = if okD F1 L2 then (0 : Int) else 2 := ⟨_, rfl⟩
  rw [← hX, ← hY, ← hZ] at D ⊢
  clear hX hY hZ
  have C' := Lib.hid c'; have CW := Lib.hid cw; have HX := Lib.hid hx; have HY := Lib.hid hy; have H47 := Lib.hid h47
  clear c c' cw hx hy hno h47
  have hcase : ∃ c6 c7, decide ((s.size : Int) > 7) = c7 ∧ decide ((s.size : Int) > 6) = c6 ∧ ((c7 = true ∧ c6 = true ∧ ((s.extract 0 7).toList == [98, 101, 102, 111, 114, 101, 32]) = false ∧ ((s.extract 0 6).toList == [97, 102, 116, 101, 114, 32]) = false) ∨ (c7 = false ∧ c6 = true ∧ ((s.extract 0 6).toList == [97, 102, 116, 101, 114, 32]) = false) ∨ (c7 = false ∧ c6 = false)) := by
    refine ⟨_, _, rfl, rfl, ?_⟩
    by_cases k7 : 7 < s.size
    · exact .inl ⟨by rw [decide_eq_true_iff]; omega, by rw [decide_eq_true_iff]; omega, n7 k7, n6 (by omega)⟩
    · by_cases k6 : 6 < s.size
      · exact .inr (.inl ⟨by rw [decide_eq_false_iff_not]; omega, by rw [decide_eq_true_iff]; omega, n6 k6⟩)
      · exact .inr (.inr ⟨by rw [decide_eq_false_iff_not]; omega, by rw [decide_eq_false_iff_not]; omega⟩)
  clear n7 n6
  obtain ⟨c6, c7, q7, q6, hc⟩ := hcase
  rcases hc with ⟨rfl, rfl, z7, z6⟩ | ⟨rfl, rfl, z6⟩ | ⟨rfl, rfl⟩
  · have le7 : 7 ≤ s.size := by have := of_decide_eq_true q7; omega
    have le6 : 6 ≤ s.size := by omega
    go_enter Tryd.func27, Tryd.ntmps27
    go_wp2_with fail
    have Z0 := Lib.hid (Z2.new w (.int .i64 0) (.int .i64 0) 23)
    have B0 := Lib.hid ((Below.refl w.heap.size w).alloc (Nat.le_refl _) (.cells #[.int .i64 0, .int .i64 0] 23))
    go_loopw [8] (fun i wr => ∃ j : Nat, j ≤ m ∧ i = .int .i64 j ∧ Z2 wr w.heap.size (.int .i64 0) (.int .i64 0) ∧ Below w.heap.size w wr) (fun i _ => s.size + 1 - (intOf i).toNat)
    case atStart => exact ⟨0, Nat.zero_le _, rfl, Z0.out, B0.out⟩
    case round =>
      obtain ⟨j, hj, rfl, hz, hbe⟩ := hrel
      have ZZ := Lib.hid hz; have BB := Lib.hid hbe
      clear hz hbe Z0 B0
      by_cases hlt : j < m
      · have hjs : j < s.size := by omega
        have e1 : ((s[j].toNat : Int) == 47) = false := by
          rw [beq_eq_false_iff_ne]; intro h; exact HNO.out j hjs hlt (by rw [← UInt8.toNat_inj]; show s[j].toNat = 47; omega)
        go_wp2_with fail
        go_roundw
        case rel => exact ⟨j + 1, by omega, by go_num, ZZ.out, BB.out⟩
        case measure => simp [intOf]; omega
      · obtain rfl : j = m := by omega
        have e1 : ((s[j].toNat : Int) == 47) = true := by rw [H47.out]; rfl
        have i1 : (0 : Int) ≤ (j : Int) := by omega
        have i2 : (j : Int) ≤ (s.size : Int) := by omega
        have i3 : (0 : Int) ≤ (j : Int) + 1 := by omega
        have i4 : (j : Int) + 1 ≤ (s.size : Int) := by omega
        have i5 : ((j : Int) + 1).toNat = j + 1 := by omega
        go_wp2_with fail
        try rw [HX.out]
        refine (C.out _).mono ?_
        rintro e w2 ⟨rfl, hb2⟩
        have Z2' := Lib.hid (ZZ.out.below hb2)
        have B2 := Lib.hid (BB.out.trans (hb2.mono BB.out.size))
        clear hb2
        go_wp2_with fail
        try rw [HY.out]
        refine (C'.out _).mono ?_
        rintro e w3 ⟨rfl, hb3⟩
        have Z3 := Lib.hid ((Z2'.out.alloc (.cells #[.int .i64 F1, .int .i64 L1] 23)).below hb3)
        have X3 := Lib.hid ((Z2.new w2 (.int .i64 F1) (.int .i64 L1) 23).below hb3)
        have B3 := Lib.hid ((B2.out.alloc B2.out.size (.cells #[.int .i64 F1, .int .i64 L1] 23)).trans (hb3.mono (by have := B2.out.size; simp; omega)))
        clear hb3
        go_wp2_with fail
        refine (CW.out _).mono ?_
        rintro e w4 ⟨rfl, rfl⟩
        obtain ⟨x0, x1, _, _, _⟩ := X3.out.alloc (.cells #[.int .i64 F2, .int .i64 L2] 23)
        go_wp2_with fail
        refine (D.out _).mono ?_
        rintro e w5 ⟨rfl, hb5⟩
        obtain ⟨k0, k1, k2, k3, _⟩ := (Z3.out.alloc (.cells #[.int .i64 F2, .int .i64 L2] 23)).below hb5
        have B5 := Lib.hid ((B3.out.alloc B3.out.size (.cells #[.int .i64 F2, .int .i64 L2] 23)).trans (hb5.mono (by have := B3.out.size; simp; omega)))
        clear hb5 x0 x1
        go_wp2
        refine bodyPost_ret (by simp [results, Tryd.results27, go_sem, set20 k0, set21 k1] <;> rfl) rfl ⟨rfl, ?_⟩
        exact (B5.out.setCell (p := ⟨w.heap.size, 0, none⟩) (Nat.le_refl _) _).setCell (p := ⟨w.heap.size, 1, none⟩) (Nat.le_refl _) _
  · have le6 : 6 ≤ s.size := by have := of_decide_eq_true q6; omega
    go_enter Tryd.func27, Tryd.ntmps27
    go_wp2_with fail
    have Z0 := Lib.hid (Z2.new w (.int .i64 0) (.int .i64 0) 23)
    have B0 := Lib.hid ((Below.refl w.heap.size w).alloc (Nat.le_refl _) (.cells #[.int .i64 0, .int .i64 0] 23))
    go_loopw [8] (fun i wr => ∃ j : Nat, j ≤ m ∧ i = .int .i64 j ∧ Z2 wr w.heap.size (.int .i64 0) (.int .i64 0) ∧ Below w.heap.size w wr) (fun i _ => s.size + 1 - (intOf i).toNat)
    case atStart => exact ⟨0, Nat.zero_le _, rfl, Z0.out, B0.out⟩
    case round =>
      obtain ⟨j, hj, rfl, hz, hbe⟩ := hrel
      have ZZ := Lib.hid hz; have BB := Lib.hid hbe
      clear hz hbe Z0 B0
      by_cases hlt : j < m
      · have hjs : j < s.size := by omega
        have e1 : ((s[j].toNat : Int) == 47) = false := by
          rw [beq_eq_false_iff_ne]; intro h; exact HNO.out j hjs hlt (by rw [← UInt8.toNat_inj]; show s[j].toNat = 47; omega)
        go_wp2_with fail
        go_roundw
        case rel => exact ⟨j + 1, by omega, by go_num, ZZ.out, BB.out⟩
        case measure => simp [intOf]; omega
      · obtain rfl : j = m := by omega
        have e1 : ((s[j].toNat : Int) == 47) = true := by rw [H47.out]; rfl
        have i1 : (0 : Int) ≤ (j : Int) := by omega
        have i2 : (j : Int) ≤ (s.size : Int) := by omega
        have i3 : (0 : Int) ≤ (j : Int) + 1 := by omega
        have i4 : (j : Int) + 1 ≤ (s.size : Int) := by omega
        have i5 : ((j : Int) + 1).toNat = j + 1 := by omega
        go_wp2_with fail
        try rw [HX.out]
        refine (C.out _).mono ?_
        rintro e w2 ⟨rfl, hb2⟩
        have Z2' := Lib.hid (ZZ.out.below hb2)
        have B2 := Lib.hid (BB.out.trans (hb2.mono BB.out.size))
        clear hb2
        go_wp2_with fail
        try rw [HY.out]
        refine (C'.out _).mono ?_
        rintro e w3 ⟨rfl, hb3⟩
        have Z3 := Lib.hid ((Z2'.out.alloc (.cells #[.int .i64 F1, .int .i64 L1] 23)).below hb3)
        have X3 := Lib.hid ((Z2.new w2 (.int .i64 F1) (.int .i64 L1) 23).below hb3)
        have B3 := Lib.hid ((B2.out.alloc B2.out.size (.cells #[.int .i64 F1, .int .i64 L1] 23)).trans (hb3.mono (by have := B2.out.size; simp; omega)))
        clear hb3
        go_wp2_with fail
        refine (CW.out _).mono ?_
        rintro e w4 ⟨rfl, rfl⟩
        obtain ⟨x0, x1, _, _, _⟩ := X3.out.alloc (.cells #[.int .i64 F2, .int .i64 L2] 23)
        go_wp2_with fail
        refine (D.out _).mono ?_
        rintro e w5 ⟨rfl, hb5⟩
        obtain ⟨k0, k1, k2, k3, _⟩ := (Z3.out.alloc (.cells #[.int .i64 F2, .int .i64 L2] 23)).below hb5
        have B5 := Lib.hid ((B3.out.alloc B3.out.size (.cells #[.int .i64 F2, .int .i64 L2] 23)).trans (hb5.mono (by have := B3.out.size; simp; omega)))
        clear hb5 x0 x1
        go_wp2
        refine bodyPost_ret (by simp [results, Tryd.results27, go_sem, set20 k0, set21 k1] <;> rfl) rfl ⟨rfl, ?_⟩
        exact (B5.out.setCell (p := ⟨w.heap.size, 0, none⟩) (Nat.le_refl _) _).setCell (p := ⟨w.heap.size, 1, none⟩) (Nat.le_refl _) _
  · go_enter Tryd.func27, Tryd.ntmps27
    go_wp2_with fail
    have Z0 := Lib.hid (Z2.new w (.int .i64 0) (.int .i64 0) 23)
    have B0 := Lib.hid ((Below.refl w.heap.size w).alloc (Nat.le_refl _) (.cells #[.int .i64 0, .int .i64 0] 23))
    go_loopw [8] (fun i wr => ∃ j : Nat, j ≤ m ∧ i = .int .i64 j ∧ Z2 wr w.heap.size (.int .i64 0) (.int .i64 0) ∧ Below w.heap.size w wr) (fun i _ => s.size + 1 - (intOf i).toNat)
    case atStart => exact ⟨0, Nat.zero_le _, rfl, Z0.out, B0.out⟩
    case round =>
      obtain ⟨j, hj, rfl, hz, hbe⟩ := hrel
      have ZZ := Lib.hid hz; have BB := Lib.hid hbe
      clear hz hbe Z0 B0
      by_cases hlt : j < m
      · have hjs : j < s.size := by omega
        have e1 : ((s[j].toNat : Int) == 47) = false := by
          rw [beq_eq_false_iff_ne]; intro h; exact HNO.out j hjs hlt (by rw [← UInt8.toNat_inj]; show s[j].toNat = 47; omega)
        go_wp2_with fail
        go_roundw
        case rel => exact ⟨j + 1, by omega, by go_num, ZZ.out, BB.out⟩
        case measure => simp [intOf]; omega
      · obtain rfl : j = m := by omega
        have e1 : ((s[j].toNat : Int) == 47) = true := by rw [H47.out]; rfl
        have i1 : (0 : Int) ≤ (j : Int) := by omega
        have i2 : (j : Int) ≤ (s.size : Int) := by omega
        have i3 : (0 : Int) ≤ (j : Int) + 1 := by omega
        have i4 : (j : Int) + 1 ≤ (s.size : Int) := by omega
        have i5 : ((j : Int) + 1).toNat = j + 1 := by omega
        go_wp2_with fail
        try rw [HX.out]
        refine (C.out _).mono ?_
        rintro e w2 ⟨rfl, hb2⟩
        have Z2' := Lib.hid (ZZ.out.below hb2)
        have B2 := Lib.hid (BB.out.trans (hb2.mono BB.out.size))
        clear hb2
        go_wp2_with fail
        try rw [HY.out]
        refine (C'.out _).mono ?_
        rintro e w3 ⟨rfl, hb3⟩
        have Z3 := Lib.hid ((Z2'.out.alloc (.cells #[.int .i64 F1, .int .i64 L1] 23)).below hb3)
        have X3 := Lib.hid ((Z2.new w2 (.int .i64 F1) (.int .i64 L1) 23).below hb3)
        have B3 := Lib.hid ((B2.out.alloc B2.out.size (.cells #[.int .i64 F1, .int .i64 L1] 23)).trans (hb3.mono (by have := B2.out.size; simp; omega)))
        clear hb3
        go_wp2_with fail
        refine (CW.out _).mono ?_
        rintro e w4 ⟨rfl, rfl⟩
        obtain ⟨x0, x1, _, _, _⟩ := X3.out.alloc (.cells #[.int .i64 F2, .int .i64 L2] 23)
        go_wp2_with fail
        refine (D.out _).mono ?_
        rintro e w5 ⟨rfl, hb5⟩
        obtain ⟨k0, k1, k2, k3, _⟩ := (Z3.out.alloc (.cells #[.int .i64 F2, .int .i64 L2] 23)).below hb5
        have B5 := Lib.hid ((B3.out.alloc B3.out.size (.cells #[.int .i64 F2, .int .i64 L2] 23)).trans (hb5.mono (by have := B3.out.size; simp; omega)))
        clear hb5 x0 x1
        go_wp2
        refine bodyPost_ret (by simp [results, Tryd.results27, go_sem, set20 k0, set21 k1] <;> rfl) rfl ⟨rfl, ?_⟩
        exact (B5.out.setCell (p := ⟨w.heap.size, 0, none⟩) (Nat.le_refl _) _).setCell (p := ⟨w.heap.size, 1, none⟩) (Nat.le_refl _) _

end Go.Proofs.YtjpiaccpcmlfnaaDoor
