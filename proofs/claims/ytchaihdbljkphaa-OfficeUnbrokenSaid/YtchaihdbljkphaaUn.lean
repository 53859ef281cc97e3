/-
  PROVED HERE: the law archivumlaw06.OfficeUnbroken answers true for every list of offices and two numbers. No condition. Every input is spoken of.
-/
import Derived.Test.YtchaihdbljkphaaUn0
namespace Go.Proofs.Ytchaihdbljkphaa
open Go Go.RowKit Go.ChangeShapes Go.WideShapes Go.ChangeAt Go.Joins Go.Maps

set_option maxRecDepth 100000 in
set_option maxHeartbeats 8000000 in
theorem unbroken_law (p : Option Addr) (c : Nat) (l : List Off) (id d : Int) (w : World) (hE : Env w) (hL : OffsAt w p l) (hF : ∀ x ∈ l, FitO x) (hi : I64 id) (hs : l.length * 56 ≤ 140737488355328) :
    Calls Try.prog 7 #[.slice p l.length c, .int .i64 id, .int .i64 d] w fun e w' => e = .returned (.bool true) ∧ Below w.heap.size w w' := by
  obtain ⟨n, hl⟩ : ∃ n, l.length = n := ⟨_, rfl⟩
  rw [hl] at hs ⊢
  have HL := Lib.hid hl
  have EV := Lib.hid (fun (v : World) (h : Below w.heap.size w v) => hE.below h)
  have LV := Lib.hid (fun (v : World) (h : Below w.heap.size w v) => hL.next h)
  have FF := Lib.hid hF
  have HI := Lib.hid hi
  have AW := Lib.hid (awake_true w hE)
  have FE := Lib.hid (fun v h => few_any p n c l v (LV.out v h) hl (by omega) hF)
  obtain ⟨I, E, hIE⟩ := ochk_ex l
  have CK := Lib.hid (fun v h => Check_any p n c l v (EV.out v h) (LV.out v h) hl hF I E hIE)
  have CI := Lib.hid hIE
  obtain ⟨ch, hch, hc2⟩ := (gl_good l).chl d id
  have CN := Lib.hid (fun v h => Chain_any p n c l id d v (EV.out v h) (LV.out v h) hl hF hi ch hch hc2)
  have RE := Lib.hid (fun v h => Reach_any p n c l id v (EV.out v h) (LV.out v h) hl hF hi)
  have CHN := Lib.hid hch
  have C2 := Lib.hid hc2
  clear hE hL hl hF hi hIE hch hc2
  go_enter Try.func7, Try.ntmps7
  go_wp2_with fail
  refine AW.out.mono ?_
  rintro e w2 ⟨rfl, hb⟩
  have N2 := Lib.hid hb
  clear hb AW
  go_wp2_with fail
  refine (FE.out _ N2.out).mono ?_
  rintro e w3 ⟨B, rfl, hB, rfl⟩
  have HB := Lib.hid hB
  clear hB FE
  cases B with
  | false =>
    go_wp2_with fail
    go_ret
    exact ⟨rfl, N2.out⟩
  | true =>
  have n37 : n ≤ 37 := by rw [← HL.out]; exact (HB.out rfl).1
  have FD := Lib.hid (fun z v h => Find_any p n c l z v (LV.out v h) HL.out (by omega))
  clear HB hs
  go_wp2_with fail
  refine (CN.out _ N2.out).mono ?_
  rintro e w3 ⟨r, rfl, hr, hb⟩
  obtain ⟨pc, cc, rfl, hI, hcc⟩ := hr.open2
  have HCC := Lib.hid hcc
  have N3 := Lib.hid (N2.out.trans (hb.mono N2.out.size))
  have IC := Lib.hid (fun v (h : Below w3.heap.size w3 v) => hI.next h)
  clear hr hb hI CN hcc
  go_wp2_with fail
  refine (CK.out _ N3.out).mono ?_
  rintro e w4 ⟨rfl, hb⟩
  have K4 := Lib.hid hb
  have N4 := Lib.hid (N3.out.trans (hb.mono N3.out.size))
  clear hb CK
  have d0 : (((0 : Nat) : Int) == 0) = true := rfl
  by_cases hz : E = 0
  case neg =>
    have d1 : (E != 0) = true := by simp [hz]
    have G0 := gl_no (CI.out.bad hz)
    have H0 := CHN.out
    rw [G0] at H0
    have h0 : ch = [] := by
      rcases H0 with ⟨_, h⟩ | h
      · exact h
      · obtain ⟨x, hx⟩ := h.hasx
        cases hx
    subst h0
    have RE2 := Lib.hid (RE.out _ N4.out)
    rw [G0, reachL_none rfl] at RE2
    clear hz H0 G0
    go_wp2_with fail
    refine RE2.out.mono ?_
    rintro e w5 ⟨r, rfl, hr, hb⟩
    obtain ⟨pr, cr, rfl, _⟩ := hr.open'
    have N5 := Lib.hid (N4.out.trans (hb.mono N4.out.size))
    clear hr hb
    go_wp2_with fail
    go_ret
    exact ⟨rfl, N5.out⟩
  have d1 : (E != 0) = false := by simp [hz]
  subst hz
  have GG := Lib.hid CI.out.good.1
  have HG := gl_of GG.out
  rw [HG] at CHN RE
  clear HG
  go_wp2_with fail
  refine (FD.out id _ N4.out).mono ?_
  rintro e w5 ⟨rfl, hb⟩
  have K5 := Lib.hid (K4.out.trans (hb.mono K4.out.size))
  have N5 := Lib.hid (N4.out.trans (hb.mono N4.out.size))
  clear hb
  cases hf : fnd l id with
  | none =>
    have d2 : decide ((-1 : Int) < 0) = true := rfl
    have h0 : ch = [] := by
      rcases CHN.out with ⟨_, h⟩ | h
      · exact h
      · obtain ⟨x, hx⟩ := h.hasx
        rw [hf] at hx
        cases hx
    subst h0
    have RE2 := Lib.hid (RE.out _ N5.out)
    rw [reachL_none hf] at RE2
    rw [fixV_none hf]
    clear hf
    go_wp2_with fail
    refine RE2.out.mono ?_
    rintro e w6 ⟨r, rfl, hr, hb⟩
    obtain ⟨pr, cr, rfl, _⟩ := hr.open'
    have N6 := Lib.hid (N5.out.trans (hb.mono N5.out.size))
    clear hr hb
    go_wp2_with fail
    go_ret
    exact ⟨rfl, N6.out⟩
  | some x0 =>
  obtain ⟨k0, hk0, hlk0, _⟩ := fixV_some hf
  obtain ⟨pb, po, hpp, _⟩ := (LV.out w5 N5.out).get hlk0
  subst hpp
  rw [hk0]
  have d2 : decide ((k0 : Int) < 0) = false := decide_eq_false (by omega)
  have CC : Hid (Ch l d id ch) := by
    rcases CHN.out with ⟨h, _⟩ | h
    · rw [hf] at h; cases h
    · exact h
  clear hf hk0
  have UP := Lib.hid (CC.out.up GG.out)
  have RC := Lib.hid CC.out.rc
  obtain ⟨t, ht⟩ := CC.out.ne
  have c0 := IC.out w5 K5.out
  obtain ⟨gb, go, hpc, hcell⟩ := c0.get (i := 0) (x := id) (by rw [ht]; rfl)
  rw [Nat.add_zero] at hcell
  have zb := World.block_lt_of_cell? w5 _ hcell
  obtain ⟨m, hm⟩ : ∃ m, ch.length = m := ⟨_, rfl⟩
  have m0 : 0 < m := by rw [← hm, ht]; simp
  have m32 : m ≤ 32 := by rw [← hm]; exact C2.out
  have HM := Lib.hid hm
  have mc : m ≤ cc := by rw [← hm]; exact HCC.out
  have H0 : Hid (ch[0]? = some id) := by show _ = _; rw [ht]; rfl
  rw [hm]
  have d3 : ((m : Int) == 0) = false := by simp; omega
  have d4 : (id != id) = false := by simp
  have d5 : decide ((0 : Int) < (m : Int)) = true := decide_eq_true (by omega)
  subst hpc
  clear hm ht c0 CHN
  go_wp2_with fail
  refine (RE.out _ N5.out).mono ?_
  rintro e w6 ⟨r, rfl, hr, hb⟩
  obtain ⟨pr, cr, rfl, hI⟩ := hr.open'
  have K6 := Lib.hid (K5.out.trans (hb.mono K5.out.size))
  have N6 := Lib.hid (N5.out.trans (hb.mono N5.out.size))
  have IR := Lib.hid (fun v (h : Below w6.heap.size w6 v) => hI.next h)
  have K36 : Hid (Below w3.heap.size w3 w6) := K6.out
  clear hr hb hI RE hcell zb
  go_wp2_with fail
  go_loopw [63] (fun i wr => ∃ j : Nat, j < m ∧ i = .int .i64 j ∧ Below w6.heap.size w6 wr) (fun i _ => m - iv i)
  case atStart => exact ⟨0, m0, rfl, Below.refl _ _⟩
  case round =>
    obtain ⟨j, hj, rfl, hB⟩ := hrel
    obtain ⟨z, hz⟩ : ∃ z, ch[j]? = some z := ⟨_, List.getElem?_eq_getElem (by rw [HM.out]; exact hj)⟩
    obtain ⟨x, hx, hcs⟩ := CC.out.at j z hz
    have NB := Lib.hid hB
    have NWr : Hid (Below w.heap.size w wr) := N6.out.trans (hB.mono N6.out.size)
    have K3r : Hid (Below w3.heap.size w3 wr) := K36.out.trans (hB.mono K36.out.size)
    obtain ⟨gb', go', e0, hcell⟩ := (IC.out wr K3r.out).get hz
    cases e0
    have zb := World.block_lt_of_cell? wr _ hcell
    obtain ⟨k, hk, hlk, hkn⟩ := fixV_some hx
    have FZ := Lib.hid (FD.out z wr NWr.out)
    rw [hk] at FZ
    have kn : k < n := by rw [← HL.out]; exact hkn
    have CS := Lib.hid hcs; have HZ := Lib.hid hz; have HLK := Lib.hid hlk; have HX := Lib.hid hx
    have hkd : decide ((j : Int) < (m : Int)) = true := by simp; omega
    have g1 : decide ((k : Int) < 0) = false := decide_eq_false (by omega)
    have g2 : decide ((k : Int) ≥ (n : Int)) = false := decide_eq_false (by omega)
    have g2' : decide (n ≤ k) = false := decide_eq_false (by omega)
    clear hB hz hx hcs hk hlk hkn
    go_wp2_with fail
    refine FZ.out.mono ?_
    rintro e w7 ⟨rfl, hb⟩
    have K7 := Lib.hid (K3r.out.trans (hb.mono K3r.out.size))
    have N7 := Lib.hid (NWr.out.trans (hb.mono NWr.out.size))
    have M7 := Lib.hid (NB.out.trans (hb.mono NB.out.size))
    clear hb FZ hcell zb
    have ct := Contains_ints (some ⟨gb, go, none⟩) (ch.take j) z cc w7 ((IC.out w7 K7.out).take j) (by rw [List.length_take, HM.out]; omega)
    rw [show (ch.take j).length = j by rw [List.length_take, HM.out]; omega, not_ahead UP.out.1 HZ.out] at ct
    have CT := Lib.hid ct
    have s1 : (0 : Int) ≤ (j : Int) := by omega
    have s2 : (j : Int) ≤ (cc : Int) := by omega
    clear ct
    go_wp2_with fail
    refine CT.out.mono ?_
    rintro e w8 ⟨rfl, hb⟩
    have K8 := Lib.hid (K7.out.trans (hb.mono K7.out.size))
    have N8 := Lib.hid (N7.out.trans (hb.mono N7.out.size))
    have M8 := Lib.hid (M7.out.trans (hb.mono M7.out.size))
    clear hb CT
    have zr : decide (z ∈ reachL l id) = true := decide_eq_true (mem_reachL (RC.out z (List.mem_of_getElem? HZ.out)))
    have cr2 := Contains_ints pr (reachL l id) z cr w8 (IR.out w8 M8.out) (Nat.le_trans (List.length_filter_le _ _) (by rw [List.length_map, HL.out]; omega))
    rw [zr] at cr2
    have CR := Lib.hid cr2
    clear cr2 zr
    go_wp2_with fail
    refine CR.out.mono ?_
    rintro e w9 ⟨rfl, hb⟩
    have K9 := Lib.hid (K8.out.trans (hb.mono K8.out.size))
    have N9 := Lib.hid (N8.out.trans (hb.mono N8.out.size))
    have M9 := Lib.hid (M8.out.trans (hb.mono M8.out.size))
    clear hb CR
    obtain ⟨pb', po', e0, ha, hin⟩ := (LV.out w9 N9.out).get HLK.out
    cases e0
    have q2 := ha.2.2.1; have q3 := ha.2.2.2.1; have q4 := ha.2.2.2.2
    have zb := ha.lt
    have hk1 : (k : Int) < (n : Int) := by omega
    have s3 : (0 : Int) ≤ (m : Int) - 1 := by omega
    have s4 : IntKind.i64.wrap ((m : Int) - 1) = (m : Int) - 1 := IntWalk.i64_in _ (by omega)
    obtain ⟨nn, hnn⟩ : ∃ nn, x.nx.length = nn := ⟨_, rfl⟩
    rw [hnn] at q4
    have HNN := Lib.hid hnn
    have HIN := Lib.hid hin
    clear ha hnn hin
    obtain ⟨A, hA⟩ : ∃ A, decide (x.fr ≤ d) = A := ⟨_, rfl⟩
    obtain ⟨B, hB⟩ : ∃ B, decide (d < x.un) = B := ⟨_, rfl⟩
    have inF : inD x d = (A && B) := by unfold inD; rw [hA, hB]
    have INF := Lib.hid inF
    clear inF
    cases A with
    | false =>
      rcases CS.out with ⟨h, h2⟩ | ⟨h, h2, mm, t2, h3, h4⟩
      · have e1 : ((j : Int) == (m : Int) - 1) = true := by rw [beq_iff_eq]; have := HM.out; omega
        have hn0 : nn = 0 := by
          rcases h2 with h2 | h2
          · rw [INF.out] at h2; cases h2
          · rw [← HNN.out, h2]; rfl
        subst hn0
        clear h h2
        go_wp2_with fail
        go_ret
        exact ⟨rfl, N9.out⟩
      · have e1 : ((j : Int) == (m : Int) - 1) = false := by rw [beq_eq_false_iff_ne]; have := HM.out; omega
        have jm : j + 1 < m := by have := HM.out; omega
        obtain ⟨y, hy, hyc⟩ := CC.out.at (j + 1) mm h4
        obtain ⟨k2, hk2, hlk2, hkn2⟩ := fixV_some hy
        have k2n : k2 < n := by rw [← HL.out]; exact hkn2
        have FZ2 := Lib.hid (FD.out mm w9 N9.out)
        rw [hk2] at FZ2
        have npos : 0 < nn := by rw [← HNN.out, h3]; simp
        obtain ⟨gb', go', e0, hc2⟩ := (IC.out w9 K9.out).get h4
        cases e0
        have zb2 := World.block_lt_of_cell? w9 _ hc2
        have i1 : (0 : Int) ≤ (j : Int) + 1 := by omega
        have i2 : (j : Int) + 1 < (m : Int) := by omega
        have i3 : ((j : Int) + 1).toNat = j + 1 := by omega
        have i4 : IntKind.i64.wrap ((j : Int) + 1) = (j : Int) + 1 := IntWalk.i64_in _ (by omega)
        have FU : y.fr = x.un := by
          obtain ⟨y', hy', he⟩ := (GG.out.fine (fnd_some HX.out).1).nxt mm (by rw [h3]; exact List.mem_cons_self)
          obtain rfl := Option.some.inj (hy.symm.trans hy')
          exact he
        have HY := Lib.hid hlk2; have HFU := Lib.hid FU
        have C4 := Lib.hid h4; have H3 := Lib.hid h3
        clear h h2 hy hyc hk2 hlk2 hkn2 FU h3 h4
        go_wp2_with fail
        refine FZ2.out.mono ?_
        rintro e w10 ⟨rfl, hb⟩
        have N10 := Lib.hid (N9.out.trans (hb.mono N9.out.size))
        have M10 := Lib.hid (M9.out.trans (hb.mono M9.out.size))
        have K10 := Lib.hid (K9.out.trans (hb.mono K9.out.size))
        have I10 := HIN.out.next hb
        clear hb FZ2 q2 q3 q4 zb hc2 zb2
        obtain ⟨pb', po', e0, ha, _⟩ := (LV.out w10 N10.out).get HLK.out
        cases e0
        have q3 := ha.2.2.2.1; have q4 := ha.2.2.2.2
        have zb := ha.lt
        obtain ⟨pb', po', e0, hay, _⟩ := (LV.out w10 N10.out).get HY.out
        cases e0
        have r2 := hay.2.2.1
        rw [HFU.out] at r2
        obtain ⟨gb', go', e0, hc2⟩ := (IC.out w10 K10.out).get C4.out
        cases e0
        have zb2 := World.block_lt_of_cell? w10 _ hc2
        obtain ⟨nb, no, hnp, hn0⟩ := I10.get (i := 0) (x := mm) (by rw [H3.out]; rfl)
        rw [Nat.add_zero] at hn0
        rw [hnp, HNN.out] at q4
        have zb3 := World.block_lt_of_cell? w10 _ hn0
        have dn : ((nn : Int) == 0) = false := by simp; omega
        have dn2 : decide ((0 : Int) < (nn : Int)) = true := decide_eq_true (by omega)
        have f1 : decide ((k2 : Int) < 0) = false := decide_eq_false (by omega)
        have f2 : decide ((k2 : Int) ≥ (n : Int)) = false := decide_eq_false (by omega)
        have f2' : decide (n ≤ k2) = false := decide_eq_false (by omega)
        have f3 : (mm != mm) = false := by simp
        have f4 : (x.un != x.un) = false := by simp
        clear ha hay hnp I10
        go_wp2_with fail
        go_quiet (fail)
        go_wp2_with fail
        go_roundw
        case rel => exact ⟨j + 1, jm, by go_num, below_drewN M10.out _⟩
        case measure => simp only [iv]; omega
    | true =>
    cases B with
    | false =>
      rcases CS.out with ⟨h, h2⟩ | ⟨h, h2, mm, t2, h3, h4⟩
      · have e1 : ((j : Int) == (m : Int) - 1) = true := by rw [beq_iff_eq]; have := HM.out; omega
        have hn0 : nn = 0 := by
          rcases h2 with h2 | h2
          · rw [INF.out] at h2; cases h2
          · rw [← HNN.out, h2]; rfl
        subst hn0
        clear h h2
        go_wp2_with fail
        go_ret
        exact ⟨rfl, N9.out⟩
      · have e1 : ((j : Int) == (m : Int) - 1) = false := by rw [beq_eq_false_iff_ne]; have := HM.out; omega
        have jm : j + 1 < m := by have := HM.out; omega
        obtain ⟨y, hy, hyc⟩ := CC.out.at (j + 1) mm h4
        obtain ⟨k2, hk2, hlk2, hkn2⟩ := fixV_some hy
        have k2n : k2 < n := by rw [← HL.out]; exact hkn2
        have FZ2 := Lib.hid (FD.out mm w9 N9.out)
        rw [hk2] at FZ2
        have npos : 0 < nn := by rw [← HNN.out, h3]; simp
        obtain ⟨gb', go', e0, hc2⟩ := (IC.out w9 K9.out).get h4
        cases e0
        have zb2 := World.block_lt_of_cell? w9 _ hc2
        have i1 : (0 : Int) ≤ (j : Int) + 1 := by omega
        have i2 : (j : Int) + 1 < (m : Int) := by omega
        have i3 : ((j : Int) + 1).toNat = j + 1 := by omega
        have i4 : IntKind.i64.wrap ((j : Int) + 1) = (j : Int) + 1 := IntWalk.i64_in _ (by omega)
        have FU : y.fr = x.un := by
          obtain ⟨y', hy', he⟩ := (GG.out.fine (fnd_some HX.out).1).nxt mm (by rw [h3]; exact List.mem_cons_self)
          obtain rfl := Option.some.inj (hy.symm.trans hy')
          exact he
        have HY := Lib.hid hlk2; have HFU := Lib.hid FU
        have C4 := Lib.hid h4; have H3 := Lib.hid h3
        clear h h2 hy hyc hk2 hlk2 hkn2 FU h3 h4
        go_wp2_with fail
        refine FZ2.out.mono ?_
        rintro e w10 ⟨rfl, hb⟩
        have N10 := Lib.hid (N9.out.trans (hb.mono N9.out.size))
        have M10 := Lib.hid (M9.out.trans (hb.mono M9.out.size))
        have K10 := Lib.hid (K9.out.trans (hb.mono K9.out.size))
        have I10 := HIN.out.next hb
        clear hb FZ2 q2 q3 q4 zb hc2 zb2
        obtain ⟨pb', po', e0, ha, _⟩ := (LV.out w10 N10.out).get HLK.out
        cases e0
        have q3 := ha.2.2.2.1; have q4 := ha.2.2.2.2
        have zb := ha.lt
        obtain ⟨pb', po', e0, hay, _⟩ := (LV.out w10 N10.out).get HY.out
        cases e0
        have r2 := hay.2.2.1
        rw [HFU.out] at r2
        obtain ⟨gb', go', e0, hc2⟩ := (IC.out w10 K10.out).get C4.out
        cases e0
        have zb2 := World.block_lt_of_cell? w10 _ hc2
        obtain ⟨nb, no, hnp, hn0⟩ := I10.get (i := 0) (x := mm) (by rw [H3.out]; rfl)
        rw [Nat.add_zero] at hn0
        rw [hnp, HNN.out] at q4
        have zb3 := World.block_lt_of_cell? w10 _ hn0
        have dn : ((nn : Int) == 0) = false := by simp; omega
        have dn2 : decide ((0 : Int) < (nn : Int)) = true := decide_eq_true (by omega)
        have f1 : decide ((k2 : Int) < 0) = false := decide_eq_false (by omega)
        have f2 : decide ((k2 : Int) ≥ (n : Int)) = false := decide_eq_false (by omega)
        have f2' : decide (n ≤ k2) = false := decide_eq_false (by omega)
        have f3 : (mm != mm) = false := by simp
        have f4 : (x.un != x.un) = false := by simp
        clear ha hay hnp I10
        go_wp2_with fail
        go_quiet (fail)
        go_wp2_with fail
        go_roundw
        case rel => exact ⟨j + 1, jm, by go_num, below_drewN M10.out _⟩
        case measure => simp only [iv]; omega
    | true =>
      have jm : j + 1 = m := by
        rcases CS.out with ⟨h, _⟩ | ⟨_, h, _⟩
        · rw [HM.out] at h; exact h
        · rw [INF.out] at h; cases h
      have e1 : ((j : Int) == (m : Int) - 1) = true := by rw [beq_iff_eq]; omega
      clear jm
      go_wp2_with fail
      go_ret
      exact ⟨rfl, N9.out⟩

set_option maxRecDepth 100000 in
set_option maxHeartbeats 8000000 in
theorem unbroken_lifted (os : Os) (started : os.Started) (H : Type) (enc : TypeId × Value → H) :
    ReturnsInHanded {} Try.checked os 7 .any (Rows.officeUnbrokenSpec.pre6 enc Try.prog Try.f7 [] false) (Rows.officeUnbrokenSpec.post enc Try.prog Try.f7 false true false false) := by
  refine returnsInHanded_of_change_shaped (C := Try.checked) own started (by kernel_rfl) Try.func7
    (ChangeSpec.witness6 (enc := enc) (C := Try.checked) false ⟨#[], #[.slice none 0 0, .int .i64 0, .int .i64 0], []⟩ 8 (by kernel_rfl) (by kernel_rfl) (by kernel_rfl) (by kernel_rfl)) ?_
  intro W base args ds gs before hval0 hW _ hsz hsh _
  have hval : ∀ (j : Nat) t v, Try.f7.params[j]? = some t → args[j]? = some v → Value.okWide Try.prog W .any base t v := hval0
  have hW' := hW
  obtain ⟨p, q, hA0, hV, rfl, hfz, hnd⟩ := hW
  have hA : DataW.TrodAll enc Try.prog W 0 (fun _ => true) true Try.f7.params.toList args.toList ds p := hA0
  rw [Try.params7] at hA hval
  obtain ⟨v0, v1, v2, d0, d1, d2, p0, p1, p2, rfl, rfl, rfl, h0, h1, h2⟩ := trodAll_three hA
  obtain ⟨rfl, rfl⟩ := trodVars_none hV
  obtain ⟨a0, c0, l0, rfl, g0, f0, s0, _⟩ := s_offs (hval 0 22 v0 rfl rfl) h0 (weights_at hsz (j := 0) rfl rfl)
  obtain ⟨x1, rfl, rfl, rfl, wx1⟩ := Go.ChangeShapes.open_int Try.underlying3 (hval 1 3 v1 rfl rfl) h1
  obtain ⟨x2, rfl, rfl, rfl, wx2⟩ := Go.ChangeShapes.open_int Try.underlying3 (hval 2 3 v2 rfl rfl) h2
  refine (unbroken_law a0 c0 l0 x1 x2 W ⟨hsh⟩ g0 f0 (i64_wf wx1) s0).mono fun e W' ⟨he, hb⟩ => ?_
  subst he
  exact ⟨_, rfl, post_true rfl rfl (by kernel_rfl) hW' rfl hb⟩

theorem unbroken_said : Rows.OfficeUnbrokenSaid :=
  OpenClaim.holds_of_wide 7 Try.f7 rfl rfl rfl rfl rfl rfl rfl ⟨rfl, rfl, rfl, rfl, rfl⟩ rfl rfl rfl rfl rfl (by kernel_rfl) Try.func7 (by kernel_rfl)
    (of_decide_eq_true (by kernel_rfl)) (by unfold Func.isWrapper; first | (rw [if_pos (by decide +kernel)]; kernel_rfl) | (rw [if_neg (by decide +kernel)]; exact ⟨rfl, rfl⟩))
    (fun os started H enc _ => unbroken_lifted os started H enc)
#print axioms unbroken_said

end Go.Proofs.Ytchaihdbljkphaa
