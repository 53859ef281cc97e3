/-
  The reference's period, for any text. No statement of the seat is proved here.
-/
import Derived.Test.YtjpiaccpcmlfnaaDoorRy
import Derived.Test.YtjpiaccpcmlfnaaDoorPm
namespace Go.Proofs.YtjpiaccpcmlfnaaDoor
open Go.RowKit Cal
open Classical

theorem bytes_list (s : ByteArray) (k : Nat) (h : k < s.size) : s.data.toList[k]? = some s[k] := by
  rw [Array.getElem?_toList, Array.getElem?_eq_getElem h]; rfl
theorem four (s : ByteArray) (h : s.size = 4) : ∃ a b c d, s.data.toList = [a, b, c, d] := by
  have hl : s.data.toList.length = 4 := by rw [Array.length_toList]; exact h
  match e : s.data.toList, hl with
  | [a, b, c, d], _ => exact ⟨a, b, c, d, rfl⟩
theorem seven (s : ByteArray) (h : s.size = 7) : ∃ a b c d e f g, s.data.toList = [a, b, c, d, e, f, g] := by
  have hl : s.data.toList.length = 7 := by rw [Array.length_toList]; exact h
  match e : s.data.toList, hl with
  | [a, b, c, d, e', f, g], _ => exact ⟨a, b, c, d, e', f, g, rfl⟩
theorem at_k {s : ByteArray} {l : List UInt8} (hl : s.data.toList = l) (k : Nat) (h : k < s.size) (c : UInt8) (hc : l[k]? = some c) : s[k] = c := by
  have := bytes_list s k h
  rw [hl, hc] at this
  exact (Option.some.inj this).symm
theorem shape10 {s : ByteArray} {a b c d e f g i j k : UInt8} (hl : s.data.toList = [a, b, c, d, e, f, g, i, j, k]) :
    (Shape s ↔ (e.toNat : Int) = 45 ∧ (i.toNat : Int) = 45 ∧ okL [a, b, c, d] = true ∧ okL [f, g] = true ∧ okL [j, k] = true) ∧ p1 s = numV [a, b, c, d] ∧ p2 s = numV [f, g] ∧ p3 s = numV [j, k] := by
  obtain ⟨h0, h1, h2, h3⟩ := parts hl
  have q4 : s[4]'(by omega) = e := at_k hl 4 (by omega) e rfl
  have q7 : s[7]'(by omega) = i := at_k hl 7 (by omega) i rfl
  refine ⟨⟨?_, ?_⟩, by unfold p1; rw [h1], by unfold p2; rw [h2], by unfold p3; rw [h3]⟩
  · rintro ⟨h, g1, g2, o1, o2, o3⟩
    rw [q4] at g1
    rw [q7] at g2
    rw [h1] at o1; rw [h2] at o2; rw [h3] at o3
    exact ⟨g1, g2, o1, o2, o3⟩
  · rintro ⟨g1, g2, o1, o2, o3⟩
    refine ⟨h0, by rw [q4]; exact g1, by rw [q7]; exact g2, by rw [h1]; exact o1, by rw [h2]; exact o2, by rw [h3]; exact o3⟩
theorem shape_x4 {s : ByteArray} {a b c d : UInt8} (hl : s.data.toList = [a, b, c, d]) : (Shape (s ++ x4) ↔ okL [a, b, c, d] = true) ∧ p1 (s ++ x4) = numV [a, b, c, d] ∧ p2 (s ++ x4) = 1 ∧ p3 (s ++ x4) = 1 := by
  have e : (s ++ x4).data.toList = [a, b, c, d, 45, 48, 49, 45, 48, 49] := by rw [data_append, hl, x4_data]; rfl
  obtain ⟨h1, h2, h3, h4⟩ := shape10 e
  refine ⟨?_, h2, by rw [h3]; decide, by rw [h4]; decide⟩
  rw [h1]
  exact ⟨fun h => h.2.2.1, fun h => ⟨by decide, by decide, h, by decide, by decide⟩⟩
theorem shape_x7 {s : ByteArray} {a b c d e f g : UInt8} (hl : s.data.toList = [a, b, c, d, e, f, g]) : (Shape (s ++ x7) ↔ (e.toNat : Int) = 45 ∧ okL [a, b, c, d] = true ∧ okL [f, g] = true) ∧ p1 (s ++ x7) = numV [a, b, c, d] ∧ p2 (s ++ x7) = numV [f, g] ∧ p3 (s ++ x7) = 1 := by
  have ee : (s ++ x7).data.toList = [a, b, c, d, e, f, g, 45, 48, 49] := by rw [data_append, hl, x7_data]; rfl
  obtain ⟨h1, h2, h3, h4⟩ := shape10 ee
  refine ⟨?_, h2, h3, by rw [h4]; decide⟩
  rw [h1]
  exact ⟨fun h => ⟨h.1, h.2.2.1, h.2.2.2.1⟩, fun h => ⟨h.1, by decide, h.2.1, h.2.2, by decide⟩⟩

/-- What the reference's period answers. -/
abbrev PerAns (s : ByteArray) (w : World) : Prop := Calls Tryd.prog 44 #[.string s] w fun e w' => e = .returned (.tuple #[.agg #[.int .i64 (perF s), .int .i64 (perL s)], .int .i64 (perE s)]) ∧ Below w.heap.size w w'
theorem agg0 (w : World) (o : Obj) : Below w.heap.size w (w.alloc o) := (Below.refl w.heap.size w).alloc (Nat.le_refl _) _

theorem res2' {w2 : World} {b : Nat} {x y u v : Value} (o : Obj) (r0 : w2.cell? ⟨b, 0, none⟩ = some u) (r1 : w2.cell? ⟨b, 1, none⟩ = some v) :
    (((w2.setCell ⟨b, 0, none⟩ x).setCell ⟨b, 1, none⟩ y).alloc o).cell? ⟨b, 0, none⟩ = some x ∧ (((w2.setCell ⟨b, 0, none⟩ x).setCell ⟨b, 1, none⟩ y).alloc o).cell? ⟨b, 1, none⟩ = some y := by
  have h0 := set20 (x := x) (y := y) r0
  have h1 := set21 (x := x) (y := y) r1
  exact ⟨(World.cell?_alloc_lt _ o ⟨b, 0, none⟩ (World.block_lt_of_cell? _ _ h0)).trans h0, (World.cell?_alloc_lt _ o ⟨b, 1, none⟩ (World.block_lt_of_cell? _ _ h1)).trans h1⟩

set_option maxHeartbeats 2000000 in
theorem refPeriod_4 (s : ByteArray) (w : World) (h4 : s.size = 4) : PerAns s w := by
  obtain ⟨a, b, c, d, hl⟩ := four s h4
  obtain ⟨hs, q1, q2, q3⟩ := shape_x4 hl
  have C1 := Lib.hid (fun w => refNumber_any s w (by omega) (by omega))
  rw [hl] at C1
  have e1 : perE s = rdE (s ++ x4) := if_pos h4
  have e2 : perF s = rdF (s ++ x4) := if_pos h4
  have e3 : perL s = rdY (s ++ x4) := if_pos h4
  have b4 : ((s.size : Int) == 4) = true := bool_eq (by omega)
  obtain ⟨n, hn⟩ : ∃ n, n = numV [a, b, c, d] := ⟨_, rfl⟩
  unfold PerAns
  rw [e1, e2, e3]
  cases ho : okL [a, b, c, d] with
  | false =>
    have hE : rdE (s ++ x4) = 3 := by unfold rdE; rw [if_neg (by rw [hs, ho]; simp)]
    obtain ⟨_, f2, f3, _⟩ := rdE_23 (s ++ x4) (by omega)
    rw [hE, f2, f3]
    rw [ho, ← hn] at C1
    clear hs q1 q2 q3 hn hE f2 f3 e1 e2 e3 ho hl h4
    go_enter Tryd.func44, Tryd.ntmps44
    go_wp2_with fail
    refine (C1.out _).mono ?_
    rintro e w' ⟨rfl, rfl⟩
    go_wp2
    refine bodyPost_ret (by simp [results, Tryd.results44, go_sem] <;> rfl) rfl ⟨rfl, ?_⟩
    exact agg0 _ _
  | true =>
    rw [ho, ← hn] at C1
    have hE : rdE (s ++ x4) = ofE n 1 1 := by unfold rdE; rw [if_pos (hs.2 ho), q1, q2, q3, hn]
    by_cases hy : 1600 ≤ n ∧ n ≤ 4470
    · have h0 : rdE (s ++ x4) = 0 := by rw [hE]; exact year_ok hy.1 hy.2
      have f2 : rdF (s ++ x4) = ofV n 1 1 := by unfold rdF; rw [if_pos h0, q1, q2, q3, hn]
      have f3 : rdY (s ++ x4) = lastV n 12 31 := by unfold rdY; rw [if_pos h0, q1, hn]
      rw [h0, f2, f3]
      have C2 := Lib.hid (fun w => refYear_is n w hy.1 hy.2)
      have d1 : decide (n < 1600) = false := by rw [decide_eq_false_iff_not]; omega
      have d2 : decide (n > 4470) = false := by rw [decide_eq_false_iff_not]; omega
      obtain ⟨u, hu⟩ : ∃ u, u = ofV n 1 1 := ⟨_, rfl⟩
      obtain ⟨v, hv⟩ : ∃ v, v = lastV n 12 31 := ⟨_, rfl⟩
      rw [← hu, ← hv] at C2 ⊢
      clear hs q1 q2 q3 hn hE f2 f3 e1 e2 e3 ho hl h4 hy h0 hu hv
      go_enter Tryd.func44, Tryd.ntmps44
      go_wp2_with fail
      refine (C1.out _).mono ?_
      rintro e w' ⟨rfl, rfl⟩
      go_wp2_with fail
      refine (C2.out _).mono ?_
      rintro e w' ⟨rfl, hb⟩
      have N := Lib.hid hb
      obtain ⟨c0, c1, f0, f1, z⟩ := keep2 hb
      clear hb
      go_wp2
      refine bodyPost_ret (by simp [results, Tryd.results44, go_sem, set20 c0, set21 c1] <;> rfl) rfl ⟨rfl, ?_⟩
      exact ((((Below.refl w.heap.size w).alloc (Nat.le_refl _) _).trans (N.out.mono (by simp))).setCell (p := ⟨w.heap.size, 0, none⟩) (Nat.le_refl _) _).setCell (p := ⟨w.heap.size, 1, none⟩) (Nat.le_refl _) _
    · have h2 : rdE (s ++ x4) = 2 := by rw [hE]; exact year_bad (by omega)
      obtain ⟨_, f2, f3, _⟩ := rdE_23 (s ++ x4) (by omega)
      rw [h2, f2, f3]
      have hor : n < 1600 ∨ (1600 ≤ n ∧ 4470 < n) := by omega
      clear hs q1 q2 q3 hn hE f2 f3 e1 e2 e3 ho hl h4 hy h2
      rcases hor with hy | ⟨hy0, hy⟩
      · have d1 : decide (n < 1600) = true := by rw [decide_eq_true_iff]; omega
        go_enter Tryd.func44, Tryd.ntmps44
        go_wp2_with fail
        refine (C1.out _).mono ?_
        rintro e w' ⟨rfl, rfl⟩
        go_wp2
        refine bodyPost_ret (by simp [results, Tryd.results44, go_sem] <;> rfl) rfl ⟨rfl, ?_⟩
        exact agg0 _ _
      · have d1 : decide (n < 1600) = false := by rw [decide_eq_false_iff_not]; omega
        have d2 : decide (n > 4470) = true := by rw [decide_eq_true_iff]; omega
        go_enter Tryd.func44, Tryd.ntmps44
        go_wp2_with fail
        refine (C1.out _).mono ?_
        rintro e w' ⟨rfl, rfl⟩
        go_wp2
        refine bodyPost_ret (by simp [results, Tryd.results44, go_sem] <;> rfl) rfl ⟨rfl, ?_⟩
        exact agg0 _ _

set_option maxHeartbeats 2000000 in
theorem refPeriod_7 (s : ByteArray) (w : World) (h7 : s.size = 7) : PerAns s w := by
  obtain ⟨a, b, c, d, e0, f, g, hl⟩ := seven s h7
  obtain ⟨hs, q1, q2, q3⟩ := shape_x7 hl
  have x1 : (s.extract 0 4).data.toList = [a, b, c, d] := by rw [Lib.extract_data, hl]; rfl
  have x2 : (s.extract 5 7).data.toList = [f, g] := by rw [Lib.extract_data, hl]; rfl
  have C1 := Lib.hid (fun w => refNumber_any (s.extract 0 4) w (by simp [ByteArray.size_extract]; omega) (by simp [ByteArray.size_extract]; omega))
  have C2 := Lib.hid (fun w => refNumber_any (s.extract 5 7) w (by simp [ByteArray.size_extract]; omega) (by simp [ByteArray.size_extract]; omega))
  rw [x1] at C1
  rw [x2] at C2
  have e1 : perE s = rdE (s ++ x7) := (if_neg (by omega)).trans (if_pos h7)
  have e2 : perF s = rdF (s ++ x7) := (if_neg (by omega)).trans (if_pos h7)
  have e3 : perL s = rdM (s ++ x7) := (if_neg (by omega)).trans (if_pos h7)
  have b4 : ((s.size : Int) == 4) = false := bool_ne (by omega)
  have b7 : ((s.size : Int) == 7) = true := bool_eq (by omega)
  have lt4 : 4 < s.size := by omega
  have i4 : s[4]'lt4 = e0 := at_k hl 4 lt4 e0 rfl
  obtain ⟨n, hn⟩ : ∃ n, n = numV [a, b, c, d] := ⟨_, rfl⟩
  obtain ⟨m, hm⟩ : ∃ m, m = numV [f, g] := ⟨_, rfl⟩
  obtain ⟨o1, ho1⟩ : ∃ o, o = okL [a, b, c, d] := ⟨_, rfl⟩
  obtain ⟨o2, ho2⟩ : ∃ o, o = okL [f, g] := ⟨_, rfl⟩
  have le4 : 4 ≤ s.size := by omega
  have le5 : 5 ≤ s.size := by omega
  have SZ : s.size = 7 := h7
  unfold PerAns
  rw [e1, e2, e3]
  rw [← hn, ← ho1] at C1
  rw [← hm, ← ho2] at C2
  rw [← ho1, ← ho2] at hs
  by_cases hg : (e0.toNat : Int) = 45 ∧ o1 = true ∧ o2 = true
  · have hE : rdE (s ++ x7) = ofE n m 1 := by unfold rdE; rw [if_pos (hs.2 hg), q1, q2, q3, hn, hm]
    obtain ⟨g1, rfl, rfl⟩ := hg
    have g2 : ((e0.toNat : Int) == 45) = true := bool_eq g1
    have g3 : ((e0.toNat : Int) != 45) = false := by unfold bne; rw [g2]; rfl
    rw [← i4] at g2 g3
    rcases ofE_02 n m 1 with z | z
    · have h0 : rdE (s ++ x7) = 0 := by rw [hE]; exact z
      have f2 : rdF (s ++ x7) = ofV n m 1 := by unfold rdF; rw [if_pos h0, q1, q2, q3, hn, hm]
      have f3 : rdM (s ++ x7) = mn (ofV n m 1 + len n m - 1) 1048575 := by unfold rdM; rw [if_pos h0, q1, q2, q3, hn, hm]
      rw [h0, f2, f3]
      have C3 := Lib.hid (fun w => refMonth_yes n m w z)
      obtain ⟨u, hu⟩ : ∃ u, u = ofV n m 1 := ⟨_, rfl⟩
      rw [← hu] at C3 ⊢
      obtain ⟨v, hv⟩ : ∃ v, v = mn (u + len n m - 1) 1048575 := ⟨_, rfl⟩
      rw [← hv] at C3 ⊢
      clear hs q1 q2 q3 hn hm hE f2 f3 e1 e2 e3 hl h7 z h0 hu hv g1 i4 ho1 ho2 x1 x2
      go_enter Tryd.func44, Tryd.ntmps44
      go_wp2_with fail
      refine (C1.out _).mono ?_
      rintro e w' ⟨rfl, rfl⟩
      go_wp2_with fail
      try rw [SZ]
      refine (C2.out _).mono ?_
      rintro e w' ⟨rfl, rfl⟩
      go_wp2_with fail
      refine (C3.out _).mono ?_
      rintro e w' ⟨rfl, hb⟩
      have N := Lib.hid hb
      obtain ⟨c0, c1, f0, f1, z⟩ := keep2 hb
      clear hb
      go_wp2
      have q := res2' (x := .int .i64 u) (y := .int .i64 v) (.cells #[.int .i64 u, .int .i64 v] 23) c0 c1
      refine bodyPost_ret (by simp [results, Tryd.results44, go_sem, q.1, q.2] <;> rfl) rfl ⟨rfl, ?_⟩
      have B := ((((Below.refl w.heap.size w).alloc (Nat.le_refl _) _).trans (N.out.mono (by simp))).setCell (p := ⟨w.heap.size, 0, none⟩) (Nat.le_refl _) (.int .i64 u)).setCell (p := ⟨w.heap.size, 1, none⟩) (Nat.le_refl _) (.int .i64 v)
      exact B.alloc B.size _
    · have h2 : rdE (s ++ x7) = 2 := by rw [hE]; exact z
      obtain ⟨_, f2, _, f3⟩ := rdE_23 (s ++ x7) (by omega)
      rw [h2, f2, f3]
      have C3 := Lib.hid (fun w => refMonth_no n m w z)
      clear hs q1 q2 q3 hn hm hE f2 f3 e1 e2 e3 hl z h2 g1 i4 ho1 ho2 x1 x2
      go_enter Tryd.func44, Tryd.ntmps44
      go_wp2_with fail
      refine (C1.out _).mono ?_
      rintro e w' ⟨rfl, rfl⟩
      go_wp2_with fail
      try rw [SZ]
      refine (C2.out _).mono ?_
      rintro e w' ⟨rfl, rfl⟩
      go_wp2_with fail
      refine (C3.out _).mono ?_
      rintro e w' ⟨rfl, hb⟩
      have N := Lib.hid hb
      obtain ⟨c0, c1, f0, f1, z⟩ := keep2 hb
      clear hb
      go_wp2
      have q := res2' (x := .int .i64 0) (y := .int .i64 0) (.cells #[.int .i64 0, .int .i64 0] 23) c0 c1
      refine bodyPost_ret (by simp [results, Tryd.results44, go_sem, q.1, q.2] <;> rfl) rfl ⟨rfl, ?_⟩
      first
        | (have B := ((((Below.refl w.heap.size w).alloc (Nat.le_refl _) _).trans (N.out.mono (by simp))).setCell (p := ⟨w.heap.size, 0, none⟩) (Nat.le_refl _) (.int .i64 0)).setCell (p := ⟨w.heap.size, 1, none⟩) (Nat.le_refl _) (.int .i64 0); exact B.alloc B.size _)
        | (have B := ((Below.refl w.heap.size w).alloc (Nat.le_refl _) _).trans (N.out.mono (by simp)); exact B.alloc B.size _)
        | (have B := ((Below.refl w.heap.size w).alloc (Nat.le_refl _) _).trans (N.out.mono (by simp)); exact ((B.alloc B.size _).setCell (p := ⟨w.heap.size, 0, none⟩) (Nat.le_refl _) _).setCell (p := ⟨w.heap.size, 1, none⟩) (Nat.le_refl _) _)
  · have hE : rdE (s ++ x7) = 3 := by unfold rdE; rw [if_neg (fun k => hg (hs.1 k))]
    obtain ⟨_, f2, _, f3⟩ := rdE_23 (s ++ x7) (by omega)
    rw [hE, f2, f3]
    have hcase : o1 = false ∨ (o1 = true ∧ o2 = false) ∨ (o1 = true ∧ o2 = true ∧ ¬ (e0.toNat : Int) = 45) := by
      cases o1 with
      | false => exact .inl rfl
      | true =>
        cases o2 with
        | false => exact .inr (.inl ⟨rfl, rfl⟩)
        | true => exact .inr (.inr ⟨rfl, rfl, fun k => hg ⟨k, rfl, rfl⟩⟩)
    clear hs q1 q2 q3 hn hm hE f2 f3 e1 e2 e3 hl ho1 ho2 x1 x2 hg
    rcases hcase with rfl | ⟨rfl, rfl⟩ | ⟨rfl, rfl, g1⟩
    · clear i4
      go_enter Tryd.func44, Tryd.ntmps44
      go_wp2_with fail
      refine (C1.out _).mono ?_
      rintro e w' ⟨rfl, rfl⟩
      go_wp2_with fail
      try rw [SZ]
      refine (C2.out _).mono ?_
      rintro e w' ⟨rfl, rfl⟩
      go_wp2
      refine bodyPost_ret (by simp [results, Tryd.results44, go_sem] <;> rfl) rfl ⟨rfl, ?_⟩
      exact agg0 _ _
    · clear i4
      go_enter Tryd.func44, Tryd.ntmps44
      go_wp2_with fail
      refine (C1.out _).mono ?_
      rintro e w' ⟨rfl, rfl⟩
      go_wp2_with fail
      try rw [SZ]
      refine (C2.out _).mono ?_
      rintro e w' ⟨rfl, rfl⟩
      go_wp2
      refine bodyPost_ret (by simp [results, Tryd.results44, go_sem] <;> rfl) rfl ⟨rfl, ?_⟩
      exact agg0 _ _
    · have g2 : ((e0.toNat : Int) == 45) = false := bool_ne g1
      have g3 : ((e0.toNat : Int) != 45) = true := by unfold bne; rw [g2]; rfl
      rw [← i4] at g2 g3
      clear i4 g1
      go_enter Tryd.func44, Tryd.ntmps44
      go_wp2_with fail
      refine (C1.out _).mono ?_
      rintro e w' ⟨rfl, rfl⟩
      go_wp2_with fail
      try rw [SZ]
      refine (C2.out _).mono ?_
      rintro e w' ⟨rfl, rfl⟩
      go_wp2
      refine bodyPost_ret (by simp [results, Tryd.results44, go_sem] <;> rfl) rfl ⟨rfl, ?_⟩
      exact agg0 _ _

/-- The reference's Parse of layer 2, in one form. -/
theorem refParse_rd (s : ByteArray) (w : World) : ∃ F, (rdE s = 0 → F = rdF s) ∧ Calls Tryd.prog 67 #[.string s] w fun e w' => e = .returned (.tuple #[.int .i64 F, .int .i64 (rdE s)]) ∧ w = w' := by
  by_cases h : Shape s
  · refine ⟨ofV (p1 s) (p2 s) (p3 s), fun h0 => by unfold rdF; rw [if_pos h0], ?_⟩
    unfold rdE
    rw [if_pos h]
    exact refParse_good s w h
  · refine ⟨0, fun h0 => by unfold rdE at h0; rw [if_neg h] at h0; omega, ?_⟩
    unfold rdE
    rw [if_neg h]
    exact refParse_bad s w h

set_option maxHeartbeats 2000000 in
theorem refPeriod_rest (s : ByteArray) (w : World) (h4 : s.size ≠ 4) (h7 : s.size ≠ 7) : PerAns s w := by
  have e1 : perE s = rdE s := by
    unfold perE
    rw [if_neg h4, if_neg h7]
    by_cases h : s.size = 10
    · rw [if_pos h]
    · rw [if_neg h]; unfold rdE; rw [if_neg (fun k => h k.1)]
  have hFL : rdE s = 0 → perF s = rdF s ∧ perL s = rdF s := by
    intro h0
    have h10 : s.size = 10 := by
      unfold rdE at h0
      by_cases k : Shape s
      · exact k.1
      · rw [if_neg k] at h0; omega
    exact ⟨(if_neg h4).trans ((if_neg h7).trans (if_pos h10)), (if_neg h4).trans ((if_neg h7).trans (if_pos h10))⟩
  have hFN : rdE s ≠ 0 → perF s = 0 ∧ perL s = 0 := by
    intro h0
    obtain ⟨_, f2, _, _⟩ := rdE_23 s h0
    unfold perF perL
    rw [if_neg h4, if_neg h7, if_neg h4, if_neg h7]
    by_cases h : s.size = 10
    · rw [if_pos h]; exact ⟨f2, f2⟩
    · rw [if_neg h]; exact ⟨rfl, rfl⟩
  have b4 : ((s.size : Int) == 4) = false := bool_ne (by omega)
  have b7 : ((s.size : Int) == 7) = false := bool_ne (by omega)
  unfold PerAns
  rw [e1]
  obtain ⟨F, hF, _⟩ := refParse_rd s w
  have C : Hid (∀ w, Calls Tryd.prog 67 #[.string s] w fun e w' => ∃ F, (rdE s = 0 → F = rdF s) ∧ e = .returned (.tuple #[.int .i64 F, .int .i64 (rdE s)]) ∧ w = w') := by
    intro w
    obtain ⟨F, hF, c⟩ := refParse_rd s w
    exact c.mono fun e w' ⟨h1, h2⟩ => ⟨F, hF, h1, h2⟩
  by_cases h0 : rdE s = 0
  · obtain ⟨f1, f2⟩ := hFL h0
    rw [f1, f2, h0]
    rw [h0] at C
    obtain ⟨G, hG⟩ : ∃ G, G = rdF s := ⟨_, rfl⟩
    rw [← hG] at C ⊢
    clear hFL hFN hF e1 h0 f1 f2 hG h4 h7
    go_enter Tryd.func44, Tryd.ntmps44
    go_wp2_with fail
    refine (C.out _).mono ?_
    rintro e w' ⟨F2, hF2, rfl, rfl⟩
    obtain rfl := hF2 trivial
    go_wp2
    refine bodyPost_ret (by simp [results, Tryd.results44, go_sem] <;> rfl) rfl ⟨rfl, ?_⟩
    exact agg0 _ _
  · obtain ⟨f1, f2⟩ := hFN h0
    rw [f1, f2]
    have hne : (rdE s == 0) = false := bool_ne h0
    have hne2 : (rdE s != 0) = true := by unfold bne; rw [hne]; rfl
    obtain ⟨G, hG⟩ : ∃ G, G = rdE s := ⟨_, rfl⟩
    rw [← hG] at C hne hne2 ⊢
    clear hFL hFN hF e1 h0 f1 f2 hG h4 h7
    go_enter Tryd.func44, Tryd.ntmps44
    go_wp2_with fail
    refine (C.out _).mono ?_
    rintro e w' ⟨F2, hF2, rfl, rfl⟩
    clear hF2
    go_wp2
    refine bodyPost_ret (by simp [results, Tryd.results44, go_sem] <;> rfl) rfl ⟨rfl, ?_⟩
    exact agg0 _ _

/-- The reference's period, for any text. -/
theorem refPeriod_any (s : ByteArray) (w : World) : PerAns s w := by
  by_cases h4 : s.size = 4
  · exact refPeriod_4 s w h4
  by_cases h7 : s.size = 7
  · exact refPeriod_7 s w h7
  exact refPeriod_rest s w h4 h7

end Go.Proofs.YtjpiaccpcmlfnaaDoor
