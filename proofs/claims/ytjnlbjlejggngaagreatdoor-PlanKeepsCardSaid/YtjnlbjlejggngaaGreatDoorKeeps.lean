/-
  PROVED HERE: the law archivumlaw07.PlanKeeps answers true for every two versions and string. Condition: the listed variables hold what the program's text lays in them. Every input is spoken of.
-/
import Derived.Test.YtjnlbjlejggngaaGreatDoorEy
import Derived.Test.YtjnlbjlejggngaaGreatDoorFp
import Derived.Test.YtjnlbjlejggngaaGreatDoorNw
import Derived.BigQuiet
namespace Go.Proofs.YtjnlbjlejggngaaGreatDoor
open Go Go.RowKit Go.ChangeShapes Go.WideShapes Go.ChangeAt Go.Joins

set_option maxRecDepth 100000 in
set_option maxHeartbeats 4000000 in
theorem c21_any (y : Pr) (b1 b2 : Nat) (t s : ByteArray) (w : World) (hE : Env w) (hy : y.c.size ≤ 1000000000000) (ht : t.size ≤ 1000000000000) (hs : s.size ≤ 1000000000000) (h1 : w.cell? ⟨b1, 0, none⟩ = some (.string t)) (h2 : w.cell? ⟨b2, 0, none⟩ = some (.string s)) :
    Calls Tryz.prog 21 #[.agg #[.string y.c, .string y.t], .pointer (some ⟨b1, 0, none⟩), .pointer (some ⟨b2, 0, none⟩)] w fun e w' => e = .returned (.bool (decide (y.c ≠ t) && wit s y.c && wit y.c t)) ∧ Below w.heap.size w w' := by
  obtain ⟨W1, hW1⟩ : ∃ W1, W1 = w.alloc (.cells #[.string y.c, .string y.t] 44) := ⟨_, rfl⟩
  have B1 : Hid (Below w.heap.size w W1) := by rw [hW1]; exact (Below.refl _ _).alloc (Nat.le_refl _) _
  have C1 : Hid (W1.cell? ⟨w.heap.size, 0, none⟩ = some (.string y.c)) := by rw [hW1]; exact World.cell?_alloc_new w _ 44 0
  have T1 := Lib.hid (cell_next h1 B1.out); have S1 := Lib.hid (cell_next h2 B1.out)
  have WA := Lib.hid (fun w2 (h : Below w.heap.size w w2) => Within_ref s y.c w2 (hE.below h) hs hy)
  have WB := Lib.hid (fun w2 (h : Below w.heap.size w w2) => Within_ref y.c t w2 (hE.below h) hy ht)
  obtain ⟨Q1, hQ1⟩ : ∃ Q, Q = wit s y.c := ⟨_, rfl⟩
  obtain ⟨Q2, hQ2⟩ : ∃ Q, Q = wit y.c t := ⟨_, rfl⟩
  rw [← hQ1] at WA ⊢
  rw [← hQ2] at WB ⊢
  have c0 := C1.out; have t0 := T1.out; have s0 := S1.out
  clear hE hy ht hs hQ1 hQ2
  by_cases g : y.c = t
  · have e1 := ba_eq' g
    rw [show decide (y.c ≠ t) = false by simp [g]]
    rw [hW1] at c0 t0 s0
    clear g
    go_enter Tryz.func21, Tryz.ntmps21
    go_wp2_with fail
    go_ret
    exact ⟨rfl, by first | (rw [← hW1]; exact B1.out) | exact B1.out⟩
  · have e1 := ba_ne' g
    rw [show decide (y.c ≠ t) = true by simp [g]]
    rw [hW1] at c0 t0 s0
    clear g
    go_enter Tryz.func21, Tryz.ntmps21
    go_wp2_with fail
    try rw [← hW1]
    clear hW1 c0 t0 s0
    refine (WA.out _ B1.out).mono ?_
    rintro e w2 ⟨rfl, hb⟩
    have B2 := Lib.hid (B1.out.trans (hb.mono B1.out.size))
    have c0 := cell_next C1.out hb; have t0 := cell_next T1.out hb; have s0 := cell_next S1.out hb
    clear hb
    cases Q1 with
    | false =>
      go_wp2_with fail
      go_ret
      exact ⟨rfl, B2.out⟩
    | true =>
      go_wp2_with fail
      refine (WB.out _ B2.out).mono ?_
      rintro e w3 ⟨rfl, hb⟩
      have B3 := Lib.hid (B2.out.trans (hb.mono B2.out.size))
      clear hb
      go_wp2_with fail
      go_ret
      exact ⟨by simp, B3.out⟩

set_option maxRecDepth 100000 in
set_option maxHeartbeats 8000000 in
theorem keeps_law (old new : Pln) (s : ByteArray) (w : World) (hE : Env w) (hO : PlnOk w old) (hN : PlnOk w new) :
    Calls Tryz.prog 4 #[old.val, new.val, .string s] w fun e w' => e = .returned (.bool true) ∧ Below w.heap.size w w' := by
  obtain ⟨W1, hW1⟩ : ∃ W1, W1 = ((w.alloc (.cells #[.int .i64 old.v, .int .i64 old.f, .int .i64 old.u, .slice old.cp old.cs.length old.cc, .slice old.mp old.ms.length old.mc] 27)).alloc (.cells #[.int .i64 new.v, .int .i64 new.f, .int .i64 new.u, .slice new.cp new.cs.length new.cc, .slice new.mp new.ms.length new.mc] 27)).alloc (.cells #[.string s] 9) := ⟨_, rfl⟩
  obtain ⟨b, hb⟩ : ∃ b, b = w.heap.size := ⟨_, rfl⟩
  have bb : ∀ (v : World) (o : Obj), Below v.heap.size v (v.alloc o) := fun v o => (Below.refl _ _).alloc (Nat.le_refl _) o
  have B1 : Hid (Below w.heap.size w W1) := by rw [hW1]; exact (((Below.refl _ _).alloc (Nat.le_refl _) _).alloc (by simp) _).alloc (by simp; omega) _
  have O1 : Hid (PlnAt W1 b 0 old) := by
    rw [hW1, hb]
    exact PlnAt.next (PlnAt.next ⟨World.cell?_alloc_new w _ 27 0, World.cell?_alloc_new w _ 27 1, World.cell?_alloc_new w _ 27 2, World.cell?_alloc_new w _ 27 3, World.cell?_alloc_new w _ 27 4⟩ (bb _ _)) (bb _ _)
  have N1 : Hid (PlnAt W1 (b + 1) 0 new) := by
    rw [hW1, hb]
    have hc := fun j => World.cell?_alloc_new (w.alloc (.cells #[.int .i64 old.v, .int .i64 old.f, .int .i64 old.u, .slice old.cp old.cs.length old.cc, .slice old.mp old.ms.length old.mc] 27)) #[.int .i64 new.v, .int .i64 new.f, .int .i64 new.u, .slice new.cp new.cs.length new.cc, .slice new.mp new.ms.length new.mc] 27 j
    simp only [World.size_alloc] at hc
    exact PlnAt.next ⟨hc 0, hc 1, hc 2, hc 3, hc 4⟩ (bb _ _)
  have S1 : Hid (W1.cell? ⟨b + 1 + 1, 0, none⟩ = some (.string s)) := by
    rw [hW1, hb]
    have hc := World.cell?_alloc_new ((w.alloc (.cells #[.int .i64 old.v, .int .i64 old.f, .int .i64 old.u, .slice old.cp old.cs.length old.cc, .slice old.mp old.ms.length old.mc] 27)).alloc (.cells #[.int .i64 new.v, .int .i64 new.f, .int .i64 new.u, .slice new.cp new.cs.length new.cc, .slice new.mp new.ms.length new.mc] 27)) #[.string s] 9 0
    simp only [World.size_alloc] at hc
    exact hc
  have KEEP := Lib.hid (fun (v : World) (h : Below W1.heap.size W1 v) => (⟨O1.out.next h, N1.out.next h, cell_next S1.out h⟩ : PlnAt v b 0 old ∧ PlnAt v (b + 1) 0 new ∧ v.cell? ⟨b + 1 + 1, 0, none⟩ = some (.string s)))
  have EV := Lib.hid (fun (v : World) (h : Below W1.heap.size W1 v) => hE.below (B1.out.trans (h.mono B1.out.size)))
  have OO := Lib.hid (fun (v : World) (h : Below W1.heap.size W1 v) => (hO.next B1.out).next h)
  have NN := Lib.hid (fun (v : World) (h : Below W1.heap.size W1 v) => (hN.next B1.out).next h)
  have FIN := Lib.hid (fun (v : World) (h : Below W1.heap.size W1 v) => B1.out.trans (h.mono B1.out.size))
  have AW := Lib.hid (awakeP_true W1 (EV.out W1 (Below.refl _ _)))
  have FO := Lib.hid (fun v h => FewPlan_any old v (OO.out v h))
  have FN := Lib.hid (fun v h => FewPlan_any new v (NN.out v h))
  have HO := Lib.hid (fun v h (k : FewP old) => Has_any old s v (OO.out v h) (by have := k.1; omega))
  have HN := Lib.hid (fun (t : ByteArray) v h (k : FewP new) => Has_any new t v (NN.out v h) (by have := k.1; omega))
  have NX := Lib.hid (fun v h (k : FewP old) (k2 : FewP new) (hs : s.size ≤ 100) => Next_any old new s v (EV.out v h) (OO.out v h) (NN.out v h) (by have := k.1; omega) (by have := k2.1; omega) (by have := k2.2.1; omega) (by omega))
  unfold Pln.val at FO FN HO HN NX ⊢
  clear hE hO hN bb
  go_enter Tryz.func4, Tryz.ntmps4
  go_wp2_with fail
  rw [← hW1, ← hb]
  clear hW1 hb
  go_wp2_with fail
  refine AW.out.mono ?_
  rintro e w2 ⟨rfl, hb2⟩
  have N2 := Lib.hid hb2
  clear hb2 AW
  obtain ⟨⟨o0, o1, o2, o3, o4⟩, _, _⟩ := KEEP.out w2 N2.out
  go_wp2_with fail
  refine (FO.out w2 N2.out).mono ?_
  rintro e w3 ⟨B, rfl, hB, hb⟩
  have N3 := Lib.hid (N2.out.trans (hb.mono N2.out.size))
  have HB1 := Lib.hid hB
  clear hb hB o0 o1 o2 o3 o4 FO
  cases B with
  | false =>
    go_wp2_with fail
    go_ret
    exact ⟨rfl, FIN.out _ N3.out⟩
  | true =>
  have HO1 : Hid (FewP old) := HB1.out rfl
  clear HB1
  obtain ⟨_, ⟨n0, n1, n2, n3, n4⟩, _⟩ := KEEP.out w3 N3.out
  go_wp2_with fail
  refine (FN.out w3 N3.out).mono ?_
  rintro e w4 ⟨B, rfl, hB, hb⟩
  have N4 := Lib.hid (N3.out.trans (hb.mono N3.out.size))
  have HB2 := Lib.hid hB
  clear hb hB n0 n1 n2 n3 n4 FN
  cases B with
  | false =>
    go_wp2_with fail
    go_ret
    exact ⟨rfl, FIN.out _ N4.out⟩
  | true =>
  have HN1 : Hid (FewP new) := HB2.out rfl
  clear HB2
  obtain ⟨⟨o0, o1, o2, o3, o4⟩, ⟨n0, n1, n2, n3, n4⟩, s0⟩ := KEEP.out w4 N4.out
  by_cases h1 : 100 < s.size
  · have e1 : decide ((100 : Int) < (s.size : Int)) = true := by simp; omega
    clear h1
    go_wp2_with fail
    go_ret
    exact ⟨rfl, FIN.out _ N4.out⟩
  have e1 : decide ((100 : Int) < (s.size : Int)) = false := by simp; omega
  have hs100 : s.size ≤ 100 := by omega
  have HS := Lib.hid hs100
  have T5 := Lib.hid (NX.out w4 N4.out HO1.out HN1.out hs100)
  clear h1 NX hs100
  go_wp2_with fail
  refine T5.out.mono ?_
  rintro e w5 ⟨rfl, hb⟩
  have N5 := Lib.hid (N4.out.trans (hb.mono N4.out.size))
  clear hb T5 o0 o1 o2 o3 o4 n0 n1 n2 n3 n4 s0
  cases hnx : nxt old new s with
  | none =>
    have N6 := Lib.hid (N5.out.alloc N5.out.size (.cells #[.string ⟨#[]⟩] 9))
    obtain ⟨⟨o0, o1, o2, o3, o4⟩, ⟨n0, n1, n2, n3, n4⟩, s0⟩ := KEEP.out _ N6.out
    have T6 := Lib.hid (HO.out _ N6.out HO1.out)
    obtain ⟨Q, hQ⟩ : ∃ Q, Q = has old.cs s := ⟨_, rfl⟩
    rw [← hQ] at T6
    unfold optV
    clear hQ hnx HO HN
    go_wp2_with fail
    refine T6.out.mono ?_
    rintro e w6 ⟨rfl, hb⟩
    have N7 := Lib.hid (N6.out.trans (hb.mono N6.out.size))
    have z0 := cell_next (World.cell?_alloc_new w5 #[.string ⟨#[]⟩] 9 0) hb
    clear hb T6 o0 o1 o2 o3 o4 n0 n1 n2 n3 n4 s0
    cases Q with
    | false =>
      go_wp2_with fail
      go_ret
      exact ⟨by first | rfl | simp, FIN.out _ N7.out⟩
    | true =>
      go_wp2_with fail
      go_ret
      exact ⟨by first | rfl | simp, FIN.out _ N7.out⟩
  | some t =>
    have hos : has old.cs s = true := by
      cases e : has old.cs s with
      | true => rfl
      | false =>
        unfold nxt at hnx
        rw [e, if_neg (by simp)] at hnx
        cases hnx
    have hnx2 := hnx
    unfold nxt at hnx2
    rw [if_pos hos] at hnx2
    obtain ⟨W6, hW6⟩ : ∃ W6, W6 = w5.alloc (.cells #[.string t] 9) := ⟨_, rfl⟩
    obtain ⟨g, hg⟩ : ∃ g, g = w5.heap.size := ⟨_, rfl⟩
    have N6 : Hid (Below W1.heap.size W1 W6) := by rw [hW6]; exact N5.out.alloc N5.out.size _
    have Z6 : Hid (W6.cell? ⟨g, 0, none⟩ = some (.string t)) := by rw [hW6, hg]; exact World.cell?_alloc_new w5 _ 9 0
    have T6 := Lib.hid (HO.out _ N6.out HO1.out)
    rw [hos] at T6
    rw [hW6] at T6
    obtain ⟨⟨o0, o1, o2, o3, o4⟩, ⟨n0, n1, n2, n3, n4⟩, s0⟩ := KEEP.out _ N6.out
    rw [hW6] at o0 o1 o2 o3 o4 n0 n1 n2 n3 n4 s0
    have HX := Lib.hid hnx2
    unfold optV
    clear hos hnx hnx2
    go_wp2_with fail
    try rw [← hW6]
    try rw [← hg]
    rw [← hW6] at T6
    clear hW6 hg o0 o1 o2 o3 o4 n0 n1 n2 n3 n4 s0
    refine T6.out.mono ?_
    rintro e w7 ⟨rfl, hb⟩
    have N7 := Lib.hid (N6.out.trans (hb.mono N6.out.size))
    have Z7 := Lib.hid (cell_next Z6.out hb)
    clear hb T6 HO
    rcases first_pr (fun m => decide (m.c = s)) new.ms with ⟨a1, a2⟩ | ⟨m, x, a1, a2, a3, a4, a5⟩
    · have hnear : near new.cs s = some t := by
        have h := HX.out
        have hf : new.ms.find? (fun m => decide (m.c = s)) = none := List.find?_eq_none.2 fun y hy k => by rw [a1 y hy] at k; cases k
        rw [hf] at h
        exact h
      have T8 := Lib.hid (IF_18 new.mp new.ms.length new.mc new.ms.length new.ms (b + 1 + 1) (fun m => decide (m.c = s)) (fun v => v.cell? ⟨b + 1 + 1, 0, none⟩ = some (.string s)) (fun _ _ h hb => cell_next h hb) (fun y _ v h => eqc18_any y _ s v h) w7 (NN.out w7 N7.out).2 (KEEP.out w7 N7.out).2.2 rfl (by have := HN1.out.2.1; omega) (Nat.le_refl _) (fun i y _ hi => a1 y (List.mem_of_getElem? hi)) (-1) (.inl ⟨rfl, rfl⟩))
      obtain ⟨_, ⟨n0, n1, n2, n3, n4⟩, s0⟩ := KEEP.out _ N7.out
      have HNR := Lib.hid hnear
      clear a1 a2 HX hnear
      go_wp2_with fail
      refine T8.out.mono ?_
      rintro e w8 ⟨rfl, hb⟩
      have N8 := Lib.hid (N7.out.trans (hb.mono N7.out.size))
      have Z8 := Lib.hid (cell_next Z7.out hb)
      clear hb T8 n0 n1 n2 n3 n4 s0
      have T9 := Lib.hid (HN.out s w8 N8.out HN1.out)
      obtain ⟨_, ⟨n0, n1, n2, n3, n4⟩, s0⟩ := KEEP.out _ N8.out
      cases hQ : has new.cs s with
      | true =>
        have hts : t = s := by
          have h := HNR.out
          unfold near at h
          rw [nearF_stop hQ] at h
          exact (Option.some.inj h).symm
        subst hts
        rw [hQ] at T9
        clear hQ HNR
        go_wp2_with fail
        refine T9.out.mono ?_
        rintro e w9 ⟨rfl, hb⟩
        have N9 := Lib.hid (N8.out.trans (hb.mono N8.out.size))
        have z9 := cell_next Z8.out hb
        clear hb T9 n0 n1 n2 n3 n4 s0
        obtain ⟨_, _, s0⟩ := KEEP.out _ N9.out
        go_wp2_with fail
        go_ret
        exact ⟨by first | rfl | simp, FIN.out _ N9.out⟩
      | false =>
        obtain ⟨f1, f2, f3, f4⟩ := near_facts HNR.out hQ
        have ht100 : t.size ≤ 100 := by
          obtain ⟨z, hz, hzt⟩ := has_iff.1 f1
          rw [← hzt]
          exact (HN1.out.2.2.1 z hz).1
        have TA := Lib.hid (fun v h => HN.out t v h HN1.out)
        rw [f1] at TA
        have TB := Lib.hid (fun v (h : Below W1.heap.size W1 v) => Within_ref s t v (EV.out v h) (by have := HS.out; omega) (by omega))
        rw [f2] at TB
        have TC := Lib.hid (fun v (h : Below W1.heap.size W1 v) (hz : v.cell? ⟨g, 0, none⟩ = some (.string t)) => CF_21 new.cp new.cs.length new.cc new.cs g (b + 1 + 1) (fun y => decide (y.c ≠ t) && wit s y.c && wit y.c t) (fun v => Below W1.heap.size W1 v ∧ v.cell? ⟨g, 0, none⟩ = some (.string t)) (fun _ _ h hb => ⟨h.1.trans (hb.mono h.1.size), cell_next h.2 hb⟩)
          (fun y hy v h => c21_any y g (b + 1 + 1) t s v (EV.out v h.1) (by have := (HN1.out.2.2.1 y hy).1; omega) (by omega) (by have := HS.out; omega) h.2 (KEEP.out v h.1).2.2) v (NN.out v h).1 ⟨h, hz⟩ rfl (by have := HN1.out.1; omega))
        rw [f4] at TC
        have e3 := ba_ne' f3
        rw [hQ] at T9
        clear hQ HNR f1 f2 f3 f4 ht100
        go_wp2_with fail
        refine T9.out.mono ?_
        rintro e w9 ⟨rfl, hb⟩
        have N9 := Lib.hid (N8.out.trans (hb.mono N8.out.size))
        have Z9 := Lib.hid (cell_next Z8.out hb)
        clear hb T9 n0 n1 n2 n3 n4 s0
        obtain ⟨_, ⟨n0, n1, n2, n3, n4⟩, s0⟩ := KEEP.out _ N9.out
        have z9 := Z9.out
        go_wp2_with fail
        refine (TA.out w9 N9.out).mono ?_
        rintro e wa ⟨rfl, hb⟩
        have Na := Lib.hid (N9.out.trans (hb.mono N9.out.size))
        have Za := Lib.hid (cell_next Z9.out hb)
        clear hb TA n0 n1 n2 n3 n4 s0 z9
        obtain ⟨_, ⟨n0, n1, n2, n3, n4⟩, s0⟩ := KEEP.out _ Na.out
        have z9 := Za.out
        go_wp2_with fail
        refine (TB.out wa Na.out).mono ?_
        rintro e wb ⟨rfl, hb⟩
        have Nb := Lib.hid (Na.out.trans (hb.mono Na.out.size))
        have Zb := Lib.hid (cell_next Za.out hb)
        clear hb TB n0 n1 n2 n3 n4 s0 z9
        obtain ⟨_, ⟨n0, n1, n2, n3, n4⟩, s0⟩ := KEEP.out _ Nb.out
        have z9 := Zb.out
        go_wp2_with fail
        refine (TC.out wb Nb.out Zb.out).mono ?_
        rintro e wc ⟨rfl, hb⟩
        have Nc := Lib.hid (Nb.out.trans (hb.mono Nb.out.size))
        clear hb TC n0 n1 n2 n3 n4 s0 z9
        go_wp2_with fail
        go_ret
        exact ⟨by first | rfl | simp, FIN.out _ Nc.out⟩
    · have ht : t = x.t := by
        have h := HX.out
        rw [a5] at h
        exact (Option.some.inj h).symm
      have T8 := Lib.hid (IF_18 new.mp new.ms.length new.mc m new.ms (b + 1 + 1) (fun m => decide (m.c = s)) (fun v => v.cell? ⟨b + 1 + 1, 0, none⟩ = some (.string s)) (fun _ _ h hb => cell_next h hb) (fun y _ v h => eqc18_any y _ s v h) w7 (NN.out w7 N7.out).2 (KEEP.out w7 N7.out).2.2 rfl (by have := HN1.out.2.1; omega) (by have := (List.getElem?_eq_some_iff.1 a1).1; omega) a3 (m : Int) (.inr ⟨x, a1, a2, rfl⟩))
      obtain ⟨_, ⟨n0, n1, n2, n3, n4⟩, s0⟩ := KEEP.out _ N7.out
      have A1 := Lib.hid a1
      have hml := (List.getElem?_eq_some_iff.1 a1).1
      clear a1 a2 a3 a4 a5 HX
      subst ht
      go_wp2_with fail
      refine T8.out.mono ?_
      rintro e w8 ⟨rfl, hb⟩
      have N8 := Lib.hid (N7.out.trans (hb.mono N7.out.size))
      have Z8 := Lib.hid (cell_next Z7.out hb)
      clear hb T8 n0 n1 n2 n3 n4 s0
      obtain ⟨_, ⟨n0, n1, n2, n3, n4⟩, s0⟩ := KEEP.out _ N8.out
      obtain ⟨blk, off, hnp, hpc⟩ := (NN.out w8 N8.out).2.get A1.out
      have y0 := hpc.1; have y1 := hpc.2
      have zb := hpc.lt
      have z8 := Z8.out
      rw [hnp] at n4
      obtain ⟨L, hL⟩ : ∃ L, L = new.ms.length := ⟨_, rfl⟩
      rw [← hL] at n4 hml
      have hmi : (m : Int) < (L : Int) := by omega
      have hm0 : (0 : Int) ≤ (m : Int) := by omega
      clear hpc hnp
      go_wp2_with fail
      go_quiet (fail)
      go_wp2_with fail
      go_ret
      exact ⟨by first | rfl | simp, by first | exact below_drewN (FIN.out _ N8.out) _ | exact FIN.out _ N8.out⟩

set_option maxRecDepth 100000 in
set_option maxHeartbeats 8000000 in
theorem keeps_lifted (os : Os) (started : os.Started) (H : Type) (enc : TypeId × Value → H) :
    ReturnsInHanded {} Tryz.checked os 4 .any (fun w args => (Rows.planKeepsSpec.pre enc Tryz.prog Tryz.f4 [] false w args ∧ laidMetH Tryz.prog laid7 w) ∧ sizedMet enc Tryz.prog Tryz.f4 (OpenSpec.ofChange Rows.planKeepsSpec) false w args)
      (Rows.planKeepsSpec.post enc Tryz.prog Tryz.f4 false true false false) := by
  refine wrap (s := Rows.planKeepsSpec) started (by kernel_rfl) Tryz.func4
    (ChangeSpec.witness_shaped (enc := enc) (C := Tryz.checked) (os := os) (X := fun w _ => laidMetH Tryz.prog laid7 w) false (World.laidAll Tryz.prog os laid7) #[.agg #[.int .i64 0, .int .i64 0, .int .i64 0, .slice none 0 0, .slice none 0 0], .agg #[.int .i64 0, .int .i64 0, .int .i64 0, .slice none 0 0, .slice none 0 0], .string ⟨#[]⟩] 8 (World.laidAll_os _ _ _)
      (World.shaped_of_ZipB (by kernel_rfl) (by kernel_rfl)) (by kernel_rfl) (by kernel_rfl) (by kernel_rfl) (laid_met os _)) ?_
  intro W base args ds gs before hval0 hW hE
  have hval : ∀ (j : Nat) t v, Tryz.f4.params[j]? = some t → args[j]? = some v → Value.okWide Tryz.prog W .any base t v := hval0
  have hW' := hW
  obtain ⟨p, q, hA0, hV, rfl, hfz, hnd⟩ := hW
  have hA : DataW.TrodAll enc Tryz.prog W 0 (fun _ => true) true Tryz.f4.params.toList args.toList ds p := hA0
  rw [Tryz.params4] at hA hval
  obtain ⟨v0, v1, v2, d0, d1, d2, p0, p1, p2, rfl, rfl, rfl, h0, h1, h2⟩ := trodAll_three hA
  obtain ⟨rfl, rfl⟩ := trodVars_none hV
  obtain ⟨x0, rfl, g0, k0⟩ := open_pln (hval 0 27 v0 rfl rfl) h0
  obtain ⟨x1, rfl, g1, k1⟩ := open_pln (hval 1 27 v1 rfl rfl) h1
  obtain ⟨s2, rfl, rfl, rfl, z2⟩ := Go.ChangeMaps.open_string Tryz.underlying9 (hval 2 9 v2 rfl rfl) h2
  refine (keeps_law x0 x1 s2 W hE ⟨g0, k0⟩ ⟨g1, k1⟩).mono fun e W' ⟨he, hb⟩ => ?_
  subst he
  exact ⟨_, rfl, post_true rfl rfl (by kernel_rfl) hW' rfl hb⟩

theorem keeps_said : Rows.PlanKeepsSaid :=
  OpenClaim.holds_of_wide 4 Tryz.f4 rfl rfl rfl rfl rfl rfl rfl ⟨rfl, rfl, rfl, rfl, rfl⟩ rfl rfl rfl rfl rfl (by kernel_rfl) Tryz.func4 (by kernel_rfl)
    (of_decide_eq_true (by kernel_rfl)) (by unfold Func.isWrapper; first | (rw [if_pos (by decide +kernel)]; kernel_rfl) | (rw [if_neg (by decide +kernel)]; exact ⟨rfl, rfl⟩))
    (fun os started H enc _ => keeps_lifted os started H enc)

theorem keeps_holds : Rows.PlanKeepsCardSaid :=
  Claim7.holds_tied_plain_at .later [] [.data, .data, .data, .data, .sentinel, .sentinel, .pinned] true (true, "c80df58f0cb825ccc474b2251b69f38e8d8aabfc275a480989717639d46b41a4") true
    keeps_said (fun _ h => by cases h) (by kernel_rfl) (fun _ h => by cases h) planKeeps_row_tie rfl ⟨rfl, rfl⟩ (by kernel_rfl) rfl
    (fun f fn hf hfn => by
      obtain rfl : f = 4 := Option.some.inj ((show Tryz.prog.funcNamed "archivum/archivumlaw07.PlanKeeps" = some 4 by kernel_rfl).symm.trans hf) |>.symm
      obtain rfl : fn = Tryz.f4 := (Option.some.inj (Tryz.func4.symm.trans hfn)).symm
      exact ⟨by kernel_rfl, fun j t ht => by
        rw [Tryz.params4] at ht
        have hm : t ∈ [27, 27, 9] := by simpa using Array.mem_of_getElem? ht
        have hall : ([27, 27, 9].all fun u => !Tryz.prog.wantsStandIn u) = true := by kernel_rfl
        exact (show Tryz.prog.wantsStandIn t = false by simpa using List.all_eq_true.1 hall t hm)⟩)
    (by kernel_rfl)
#print axioms keeps_holds

end Go.Proofs.YtjnlbjlejggngaaGreatDoor
