/-
  What the reader of two periods answers. No statement of the seat is proved here.
-/
import Derived.Test.YtjpiaccpcmlfnaaDoorWr
import Derived.BigQuiet
namespace Go.Proofs.YtjpiaccpcmlfnaaDoor
open Go.RowKit Cal

theorem below_drewR {B : Nat} {a w : World} (h : Below B a w) (n : Nat) : Below B a (w.drewN n) := ⟨h.os, h.tape, h.output, h.size, h.block⟩
theorem ib_le (l : List UInt8) (c : UInt8) : Lib.indexByte l c < l.length ∨ Lib.indexByte l c = -1 := by
  induction l with
  | nil => exact Or.inr rfl
  | cons b l ih =>
    unfold Lib.indexByte
    split
    · left; simp
    · split
      · exact Or.inr rfl
      · have := Lib.indexByte_ge l c
        left; simp only [List.length_cons]; omega
/-- The two parts of a text around its first slash, and whether it has one. -/
def cutA (s : ByteArray) : ByteArray := if 0 ≤ Lib.indexByte s.data.toList 47 then s.extract 0 (Lib.indexByte s.data.toList 47).toNat else s
def cutB (s : ByteArray) : ByteArray := if 0 ≤ Lib.indexByte s.data.toList 47 then s.extract ((Lib.indexByte s.data.toList 47).toNat + 1) s.size else ⟨#[]⟩

set_option maxRecDepth 100000 in
set_option maxHeartbeats 2000000 in
theorem cut_one (s : ByteArray) (w : World) (hs : s.size ≤ 1000000000) :
    Calls Tryd.prog 80 #[.string s, .string ⟨#[47]⟩] w fun e w' => ∃ b, e = .returned (.tuple #[.string (cutA s), .string (cutB s), .bool b]) ∧ Below w.heap.size w w' := by
  have hi := ib_le s.data.toList 47
  have hl : s.data.toList.length = s.size := by simp
  rw [hl] at hi
  unfold cutA cutB
  have C := Lib.hid (Tryd.stringslite_Index_one s 47)
  obtain ⟨I, hI⟩ : ∃ I, I = Lib.indexByte s.data.toList 47 := ⟨_, rfl⟩
  rw [← hI] at hi C ⊢
  clear hI hl
  by_cases h : 0 ≤ I
  · rw [if_pos h, if_pos h]
    obtain ⟨k, rfl⟩ := Int.eq_ofNat_of_zero_le h
    have hk : k < s.size := by omega
    have hd : decide ((k : Int) ≥ 0) = true := by simp
    have hw : IntKind.i64.wrap ((k : Int) + 1) = (k : Int) + 1 := IntWalk.i64_in _ (by omega)
    have e1 : (0 : Int) ≤ (k : Int) := by omega
    have e2 : (k : Int) ≤ (s.size : Int) := by omega
    have e3 : (0 : Int) ≤ (k : Int) + 1 := by omega
    have e4 : (k : Int) + 1 ≤ (s.size : Int) := by omega
    have e5 : ((k : Int) + 1).toNat = k + 1 := by omega
    go_enter Tryd.func80, Tryd.ntmps80
    go_wp2_with (first | (go_at_call 88; refine (C.out _).mono ?_; rintro e w' ⟨rfl, rfl⟩) | go_in)
    go_quiet (fail)
    go_wp2_with fail
    refine bodyPost_ret (by simp [results, Tryd.results80, go_sem] <;> rfl) rfl ⟨true, rfl, below_drewR (Below.refl _ _) _⟩
  · rw [if_neg h, if_neg h]
    have hd : decide (I ≥ 0) = false := by simp; omega
    go_enter Tryd.func80, Tryd.ntmps80
    go_wp2_with (first | (go_at_call 88; refine (C.out _).mono ?_; rintro e w' ⟨rfl, rfl⟩) | go_in)
    refine bodyPost_ret (by simp [results, Tryd.results80, go_sem] <;> rfl) rfl ⟨false, rfl, Below.refl _ _⟩

set_option maxRecDepth 100000 in
set_option maxHeartbeats 4000000 in
theorem pair_syn (s : ByteArray) (E1 F1 L1 E2 F2 L2 : Int) (w : World) (hT : Table w) (hs : s.size ≤ 1000000000) (hE1 : perE (cutA s) = E1) (hF1 : perF (cutA s) = F1) (hL1 : perL (cutA s) = L1) (hE2 : perE (cutB s) = E2) (hF2 : perF (cutB s) = F2) (hL2 : perL (cutB s) = L2)
    (h : E1 = 3 ∨ E2 = 3) :
    Calls Tryd.prog 65 #[.string s] w fun e w' => e = .returned (.tuple #[.agg #[.int .i64 0, .int .i64 0], .int .i64 3]) ∧ Below w.heap.size w w' := by
  have T1 : Hid (Table (w.alloc (.cells #[.int .i64 0, .int .i64 0] 23))) := hT.below ((Below.refl w.heap.size w).alloc (Nat.le_refl _) _)
  have D1 := Lib.hid (readPeriod_any (cutA s)); have D2 := Lib.hid (readPeriod_any (cutB s))
  rw [hE1, hF1, hL1] at D1
  rw [hE2, hF2, hL2] at D2
  have C := Lib.hid (fun w => cut_one s w hs)
  obtain ⟨P1, hP1⟩ : ∃ P, P = cutA s := ⟨_, rfl⟩
  obtain ⟨P2, hP2⟩ : ∃ P, P = cutB s := ⟨_, rfl⟩
  rw [← hP1] at D1 C
  rw [← hP2] at D2 C
  have b1 : (E1 == 3 || E2 == 3) = true := by rcases h with h | h <;> simp [h]
  have HH := Lib.hid h
  clear hT hs hE1 hF1 hL1 hE2 hF2 hL2 hP1 hP2
  go_enter Tryd.func65, Tryd.ntmps65
  go_wp2_with fail
  refine (C.out _).mono ?_
  rintro e w1 ⟨b, rfl, hb⟩
  have T2 := Lib.hid (T1.out.below hb)
  obtain ⟨r0, r1, f0, f1, z⟩ := keep2 hb
  have B1 : Hid (Below w.heap.size w w1) := ((Below.refl _ w).alloc (Nat.le_refl _) _).trans (hb.mono (by simp))
  have R1 : Hid ((w1.cell? ⟨w.heap.size, 0, none⟩ = some (.int .i64 0) ∧ w1.cell? ⟨w.heap.size, 1, none⟩ = some (.int .i64 0)) ∧ w1.frozen? ⟨w.heap.size, 0, none⟩ = false ∧ w1.frozen? ⟨w.heap.size, 1, none⟩ = false) := ⟨⟨r0, r1⟩, f0, f1⟩
  clear hb r0 r1 f0 f1
  go_wp2_with fail
  refine (D1.out _ T2.out).mono ?_
  rintro e w2 ⟨rfl, hb⟩
  have hc : Below w1.heap.size w1 (w2.alloc (.cells #[.int .i64 F1, .int .i64 L1] 23)) := hb.alloc hb.size _
  have T3 := Lib.hid (T2.out.below hc)
  have B3 := Lib.hid hc
  have q0 : (w2.alloc (.cells #[.int .i64 F1, .int .i64 L1] 23)).cell? ⟨w2.heap.size, 0, none⟩ = some (.int .i64 F1) := by rw [World.cell?_alloc_new]; rfl
  have Q0 := Lib.hid q0
  clear hb hc q0
  go_wp2_with fail
  refine (D2.out _ T3.out).mono ?_
  rintro e w3 ⟨rfl, hb⟩
  have hz3 := hb.size
  simp only [World.size_alloc] at hz3
  have hc : Below (w2.alloc (.cells #[.int .i64 F1, .int .i64 L1] 23)).heap.size (w2.alloc (.cells #[.int .i64 F1, .int .i64 L1] 23)) (w3.alloc (.cells #[.int .i64 F2, .int .i64 L2] 23)) := hb.alloc hb.size _
  have q0 := cell_far hc Q0.out
  have q1 : (w3.alloc (.cells #[.int .i64 F2, .int .i64 L2] 23)).cell? ⟨w3.heap.size, 1, none⟩ = some (.int .i64 L2) := by rw [World.cell?_alloc_new]; rfl
  have B4 := Lib.hid (B3.out.trans (hc.mono B3.out.size))
  have Y0 := Lib.hid q0; have Y1 := Lib.hid q1
  clear hb hc q0 q1
  obtain ⟨V, hV⟩ : ∃ V : World, w3.alloc (.cells #[.int .i64 F2, .int .i64 L2] 23) = V := ⟨_, rfl⟩
  have zV : w3.heap.size < V.heap.size := by rw [← hV]; simp
  rw [hV] at B4 Y0 Y1
  have r0 := (B4.out.cell (p := ⟨w.heap.size, 0, none⟩) z).trans R1.out.1.1
  have r1 := (B4.out.cell (p := ⟨w.heap.size, 1, none⟩) z).trans R1.out.1.2
  have f0 := (B4.out.frozen (p := ⟨w.heap.size, 0, none⟩) z).trans R1.out.2.1
  have f1 := (B4.out.frozen (p := ⟨w.heap.size, 1, none⟩) z).trans R1.out.2.2
  have y0 := Y0.out; have y1 := Y1.out
  have zz2 := World.block_lt_of_cell? V _ y0
  have zr := World.block_lt_of_cell? V _ r0
  clear h
  rcases HH.out with h3 | h3
  · subst h3
    go_wp2_with fail
    try rw [hV]
    go_wp2_with fail
    refine bodyPost_ret (by simp [results, Tryd.results65, go_sem, set20 r0, set21 r1] <;> rfl) rfl ⟨rfl, ?_⟩
    exact ((B1.out.trans (B4.out.mono B1.out.size)).setCell (p := ⟨w.heap.size, 0, none⟩) (Nat.le_refl _) _).setCell (p := ⟨w.heap.size, 1, none⟩) (Nat.le_refl _) _
  · subst h3
    by_cases hq : E1 = 3
    · have hq1 : (E1 == 3) = true := bool_eq hq
      clear hq
      go_wp2_with fail
      try rw [hV]
      go_wp2_with fail
      refine bodyPost_ret (by simp [results, Tryd.results65, go_sem, set20 r0, set21 r1] <;> rfl) rfl ⟨rfl, ?_⟩
      exact ((B1.out.trans (B4.out.mono B1.out.size)).setCell (p := ⟨w.heap.size, 0, none⟩) (Nat.le_refl _) _).setCell (p := ⟨w.heap.size, 1, none⟩) (Nat.le_refl _) _
    · have hq1 : (E1 == 3) = false := bool_ne hq
      clear hq
      go_wp2_with fail
      try rw [hV]
      go_wp2_with fail
      refine bodyPost_ret (by simp [results, Tryd.results65, go_sem, set20 r0, set21 r1] <;> rfl) rfl ⟨rfl, ?_⟩
      exact ((B1.out.trans (B4.out.mono B1.out.size)).setCell (p := ⟨w.heap.size, 0, none⟩) (Nat.le_refl _) _).setCell (p := ⟨w.heap.size, 1, none⟩) (Nat.le_refl _) _
set_option maxRecDepth 100000 in
set_option maxHeartbeats 4000000 in
theorem pair_bad (s : ByteArray) (E1 F1 L1 E2 F2 L2 : Int) (w : World) (hT : Table w) (hs : s.size ≤ 1000000000) (hE1 : perE (cutA s) = E1) (hF1 : perF (cutA s) = F1) (hL1 : perL (cutA s) = L1) (hE2 : perE (cutB s) = E2) (hF2 : perF (cutB s) = F2) (hL2 : perL (cutB s) = L2)
    (h : E1 ≠ 3 ∧ E2 ≠ 3 ∧ (E1 ≠ 0 ∨ E2 ≠ 0)) :
    Calls Tryd.prog 65 #[.string s] w fun e w' => e = .returned (.tuple #[.agg #[.int .i64 0, .int .i64 0], .int .i64 2]) ∧ Below w.heap.size w w' := by
  have T1 : Hid (Table (w.alloc (.cells #[.int .i64 0, .int .i64 0] 23))) := hT.below ((Below.refl w.heap.size w).alloc (Nat.le_refl _) _)
  have D1 := Lib.hid (readPeriod_any (cutA s)); have D2 := Lib.hid (readPeriod_any (cutB s))
  rw [hE1, hF1, hL1] at D1
  rw [hE2, hF2, hL2] at D2
  have C := Lib.hid (fun w => cut_one s w hs)
  obtain ⟨P1, hP1⟩ : ∃ P, P = cutA s := ⟨_, rfl⟩
  obtain ⟨P2, hP2⟩ : ∃ P, P = cutB s := ⟨_, rfl⟩
  rw [← hP1] at D1 C
  rw [← hP2] at D2 C
  have b1 : (E1 == 3) = false := bool_ne h.1
  have b2 : (E2 == 3) = false := bool_ne h.2.1
  have HH := Lib.hid h
  clear hT hs hE1 hF1 hL1 hE2 hF2 hL2 hP1 hP2
  go_enter Tryd.func65, Tryd.ntmps65
  go_wp2_with fail
  refine (C.out _).mono ?_
  rintro e w1 ⟨b, rfl, hb⟩
  have T2 := Lib.hid (T1.out.below hb)
  obtain ⟨r0, r1, f0, f1, z⟩ := keep2 hb
  have B1 : Hid (Below w.heap.size w w1) := ((Below.refl _ w).alloc (Nat.le_refl _) _).trans (hb.mono (by simp))
  have R1 : Hid ((w1.cell? ⟨w.heap.size, 0, none⟩ = some (.int .i64 0) ∧ w1.cell? ⟨w.heap.size, 1, none⟩ = some (.int .i64 0)) ∧ w1.frozen? ⟨w.heap.size, 0, none⟩ = false ∧ w1.frozen? ⟨w.heap.size, 1, none⟩ = false) := ⟨⟨r0, r1⟩, f0, f1⟩
  clear hb r0 r1 f0 f1
  go_wp2_with fail
  refine (D1.out _ T2.out).mono ?_
  rintro e w2 ⟨rfl, hb⟩
  have hc : Below w1.heap.size w1 (w2.alloc (.cells #[.int .i64 F1, .int .i64 L1] 23)) := hb.alloc hb.size _
  have T3 := Lib.hid (T2.out.below hc)
  have B3 := Lib.hid hc
  have q0 : (w2.alloc (.cells #[.int .i64 F1, .int .i64 L1] 23)).cell? ⟨w2.heap.size, 0, none⟩ = some (.int .i64 F1) := by rw [World.cell?_alloc_new]; rfl
  have Q0 := Lib.hid q0
  clear hb hc q0
  go_wp2_with fail
  refine (D2.out _ T3.out).mono ?_
  rintro e w3 ⟨rfl, hb⟩
  have hz3 := hb.size
  simp only [World.size_alloc] at hz3
  have hc : Below (w2.alloc (.cells #[.int .i64 F1, .int .i64 L1] 23)).heap.size (w2.alloc (.cells #[.int .i64 F1, .int .i64 L1] 23)) (w3.alloc (.cells #[.int .i64 F2, .int .i64 L2] 23)) := hb.alloc hb.size _
  have q0 := cell_far hc Q0.out
  have q1 : (w3.alloc (.cells #[.int .i64 F2, .int .i64 L2] 23)).cell? ⟨w3.heap.size, 1, none⟩ = some (.int .i64 L2) := by rw [World.cell?_alloc_new]; rfl
  have B4 := Lib.hid (B3.out.trans (hc.mono B3.out.size))
  have Y0 := Lib.hid q0; have Y1 := Lib.hid q1
  clear hb hc q0 q1
  obtain ⟨V, hV⟩ : ∃ V : World, w3.alloc (.cells #[.int .i64 F2, .int .i64 L2] 23) = V := ⟨_, rfl⟩
  have zV : w3.heap.size < V.heap.size := by rw [← hV]; simp
  rw [hV] at B4 Y0 Y1
  have r0 := (B4.out.cell (p := ⟨w.heap.size, 0, none⟩) z).trans R1.out.1.1
  have r1 := (B4.out.cell (p := ⟨w.heap.size, 1, none⟩) z).trans R1.out.1.2
  have f0 := (B4.out.frozen (p := ⟨w.heap.size, 0, none⟩) z).trans R1.out.2.1
  have f1 := (B4.out.frozen (p := ⟨w.heap.size, 1, none⟩) z).trans R1.out.2.2
  have y0 := Y0.out; have y1 := Y1.out
  have zz2 := World.block_lt_of_cell? V _ y0
  have zr := World.block_lt_of_cell? V _ r0
  clear h
  by_cases hq : E1 = 0
  · have hq1 : (E1 != 0) = false := by simp [hq]
    have hq2 : (E2 != 0) = true := by
      have := HH.out.2.2.resolve_left (fun g => g hq)
      simpa using this
    have HQ := Lib.hid hq
    clear hq
    go_wp2_with fail
    try rw [hV]
    go_wp2_with fail
    refine bodyPost_ret (by simp [results, Tryd.results65, go_sem, set20 r0, set21 r1] <;> rfl) rfl ⟨rfl, ?_⟩
    exact ((B1.out.trans (B4.out.mono B1.out.size)).setCell (p := ⟨w.heap.size, 0, none⟩) (Nat.le_refl _) _).setCell (p := ⟨w.heap.size, 1, none⟩) (Nat.le_refl _) _
  · have hq1 : (E1 != 0) = true := by simpa using hq
    clear hq
    go_wp2_with fail
    try rw [hV]
    go_wp2_with fail
    refine bodyPost_ret (by simp [results, Tryd.results65, go_sem, set20 r0, set21 r1] <;> rfl) rfl ⟨rfl, ?_⟩
    exact ((B1.out.trans (B4.out.mono B1.out.size)).setCell (p := ⟨w.heap.size, 0, none⟩) (Nat.le_refl _) _).setCell (p := ⟨w.heap.size, 1, none⟩) (Nat.le_refl _) _

set_option maxRecDepth 100000 in
set_option maxHeartbeats 4000000 in
theorem pair_ok (s : ByteArray) (E1 F1 L1 E2 F2 L2 : Int) (w : World) (hT : Table w) (hs : s.size ≤ 1000000000) (hE1 : perE (cutA s) = E1) (hF1 : perF (cutA s) = F1) (hL1 : perL (cutA s) = L1) (hE2 : perE (cutB s) = E2) (hF2 : perF (cutB s) = F2) (hL2 : perL (cutB s) = L2)
    (h : E1 = 0 ∧ E2 = 0) :
    Calls Tryd.prog 65 #[.string s] w fun e w' => e = .returned (.tuple #[.agg #[.int .i64 (if okD F1 L2 then F1 else 0), .int .i64 (if okD F1 L2 then L2 else 0)], .int .i64 (if okD F1 L2 then 0 else 2)]) ∧ Below w.heap.size w w' := by
  obtain ⟨h1, h2⟩ := h
  subst h1
  subst h2
  have T1 : Hid (Table (w.alloc (.cells #[.int .i64 0, .int .i64 0] 23))) := hT.below ((Below.refl w.heap.size w).alloc (Nat.le_refl _) _)
  have D1 := Lib.hid (readPeriod_any (cutA s)); have D2 := Lib.hid (readPeriod_any (cutB s))
  rw [hE1, hF1, hL1] at D1
  rw [hE2, hF2, hL2] at D2
  have C := Lib.hid (fun w => cut_one s w hs)
  obtain ⟨P1, hP1⟩ : ∃ P, P = cutA s := ⟨_, rfl⟩
  obtain ⟨P2, hP2⟩ : ∃ P, P = cutB s := ⟨_, rfl⟩
  rw [← hP1] at D1 C
  rw [← hP2] at D2 C
  have D3 := Lib.hid (withDays_any F1 L2)
  obtain ⟨P, hP⟩ : ∃ P, P = (if okD F1 L2 then F1 else 0) := ⟨_, rfl⟩
  obtain ⟨Q, hQ⟩ : ∃ P, P = (if okD F1 L2 then L2 else 0) := ⟨_, rfl⟩
  obtain ⟨R, hR⟩ : ∃ P : Int, P = (if okD F1 L2 then 0 else 2) := ⟨_, rfl⟩
  rw [← hP, ← hQ, ← hR] at D3 ⊢
  clear hP hQ hR
  clear hT hs hE1 hF1 hL1 hE2 hF2 hL2 hP1 hP2
  go_enter Tryd.func65, Tryd.ntmps65
  go_wp2_with fail
  refine (C.out _).mono ?_
  rintro e w1 ⟨b, rfl, hb⟩
  have T2 := Lib.hid (T1.out.below hb)
  obtain ⟨r0, r1, f0, f1, z⟩ := keep2 hb
  have B1 : Hid (Below w.heap.size w w1) := ((Below.refl _ w).alloc (Nat.le_refl _) _).trans (hb.mono (by simp))
  have R1 : Hid ((w1.cell? ⟨w.heap.size, 0, none⟩ = some (.int .i64 0) ∧ w1.cell? ⟨w.heap.size, 1, none⟩ = some (.int .i64 0)) ∧ w1.frozen? ⟨w.heap.size, 0, none⟩ = false ∧ w1.frozen? ⟨w.heap.size, 1, none⟩ = false) := ⟨⟨r0, r1⟩, f0, f1⟩
  clear hb r0 r1 f0 f1
  go_wp2_with fail
  refine (D1.out _ T2.out).mono ?_
  rintro e w2 ⟨rfl, hb⟩
  have hc : Below w1.heap.size w1 (w2.alloc (.cells #[.int .i64 F1, .int .i64 L1] 23)) := hb.alloc hb.size _
  have T3 := Lib.hid (T2.out.below hc)
  have B3 := Lib.hid hc
  have q0 : (w2.alloc (.cells #[.int .i64 F1, .int .i64 L1] 23)).cell? ⟨w2.heap.size, 0, none⟩ = some (.int .i64 F1) := by rw [World.cell?_alloc_new]; rfl
  have Q0 := Lib.hid q0
  clear hb hc q0
  go_wp2_with fail
  refine (D2.out _ T3.out).mono ?_
  rintro e w3 ⟨rfl, hb⟩
  have hz3 := hb.size
  simp only [World.size_alloc] at hz3
  have hc : Below (w2.alloc (.cells #[.int .i64 F1, .int .i64 L1] 23)).heap.size (w2.alloc (.cells #[.int .i64 F1, .int .i64 L1] 23)) (w3.alloc (.cells #[.int .i64 F2, .int .i64 L2] 23)) := hb.alloc hb.size _
  have q0 := cell_far hc Q0.out
  have q1 : (w3.alloc (.cells #[.int .i64 F2, .int .i64 L2] 23)).cell? ⟨w3.heap.size, 1, none⟩ = some (.int .i64 L2) := by rw [World.cell?_alloc_new]; rfl
  have B4 := Lib.hid (B3.out.trans (hc.mono B3.out.size))
  have Y0 := Lib.hid q0; have Y1 := Lib.hid q1
  clear hb hc q0 q1
  obtain ⟨V, hV⟩ : ∃ V : World, w3.alloc (.cells #[.int .i64 F2, .int .i64 L2] 23) = V := ⟨_, rfl⟩
  have zV : w3.heap.size < V.heap.size := by rw [← hV]; simp
  rw [hV] at B4 Y0 Y1
  have r0 := (B4.out.cell (p := ⟨w.heap.size, 0, none⟩) z).trans R1.out.1.1
  have r1 := (B4.out.cell (p := ⟨w.heap.size, 1, none⟩) z).trans R1.out.1.2
  have f0 := (B4.out.frozen (p := ⟨w.heap.size, 0, none⟩) z).trans R1.out.2.1
  have f1 := (B4.out.frozen (p := ⟨w.heap.size, 1, none⟩) z).trans R1.out.2.2
  have y0 := Y0.out; have y1 := Y1.out
  have zz2 := World.block_lt_of_cell? V _ y0
  have zr := World.block_lt_of_cell? V _ r0
  have HR2 := Lib.hid (And.intro (And.intro r0 r1) (And.intro f0 f1))
  clear r0 r1 f0 f1
  go_wp2_with fail
  try rw [hV]
  go_wp2_with fail
  refine (D3.out _).mono ?_
  rintro e w6 ⟨rfl, hb⟩
  have B6 := Lib.hid (B4.out.trans (hb.mono B4.out.size))
  have r0 := (hb.cell (p := ⟨w.heap.size, 0, none⟩) zr).trans HR2.out.1.1
  have r1 := (hb.cell (p := ⟨w.heap.size, 1, none⟩) zr).trans HR2.out.1.2
  have f0 := (hb.frozen (p := ⟨w.heap.size, 0, none⟩) zr).trans HR2.out.2.1
  have f1 := (hb.frozen (p := ⟨w.heap.size, 1, none⟩) zr).trans HR2.out.2.2
  clear hb y0 y1
  go_wp2_with fail
  refine bodyPost_ret (by simp [results, Tryd.results65, go_sem, set20 r0, set21 r1] <;> rfl) rfl ⟨rfl, ?_⟩
  exact ((B1.out.trans (B6.out.mono B1.out.size)).setCell (p := ⟨w.heap.size, 0, none⟩) (Nat.le_refl _) _).setCell (p := ⟨w.heap.size, 1, none⟩) (Nat.le_refl _) _
end Go.Proofs.YtjpiaccpcmlfnaaDoor
