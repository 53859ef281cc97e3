/-
  PROVED HERE: the law archivumlaw06.OfficeOnce answers true for every list of offices and a number. No condition. Every input is spoken of.
-/
import Derived.Test.YtchaihdbljkphaaOn0
namespace Go.Proofs.Ytchaihdbljkphaa
open Go Go.RowKit Go.ChangeShapes Go.WideShapes Go.ChangeAt Go.Joins Go.Maps

set_option maxRecDepth 100000 in
set_option maxHeartbeats 8000000 in
theorem once_law (p : Option Addr) (c : Nat) (l : List Off) (d : Int) (w : World) (hE : Env w) (hL : OffsAt w p l) (hF : ∀ x ∈ l, FitO x) (_ : I64 d) (hs : l.length * 56 ≤ 140737488355328) :
    Calls Try.prog 6 #[.slice p l.length c, .int .i64 d] w fun e w' => e = .returned (.bool true) ∧ Below w.heap.size w w' := by
  obtain ⟨n, hl⟩ : ∃ n, l.length = n := ⟨_, rfl⟩
  rw [hl] at hs ⊢
  have HL := Lib.hid hl
  have EV := Lib.hid (fun (v : World) (h : Below w.heap.size w v) => hE.below h)
  have LV := Lib.hid (fun (v : World) (h : Below w.heap.size w v) => hL.next h)
  have FF := Lib.hid hF
  have AW := Lib.hid (awake_true w hE)
  have FE := Lib.hid (fun v h => few_any p n c l v (LV.out v h) hl (by omega) hF)
  obtain ⟨I, E, hIE⟩ := ochk_ex l
  have CK := Lib.hid (fun v h => Check_any p n c l v (EV.out v h) (LV.out v h) hl hF I E hIE)
  have CI := Lib.hid hIE
  have DU := Lib.hid (fun z v h => Duties_any p n c l z d v (EV.out v h) (LV.out v h) hl hF)
  have HH := Lib.hid (fun z v h (hz : I64 z) => Heir_any p n c l z d v (EV.out v h) (LV.out v h) hl hF hz)
  clear hE hL hl hF hIE
  go_enter Try.func6, Try.ntmps6
  go_wp2_with fail
  refine AW.out.mono ?_
  rintro e w2 ⟨rfl, hb⟩
  have N2 := Lib.hid hb
  clear hb AW
  go_wp2_with fail
  refine (CK.out _ N2.out).mono ?_
  rintro e w3 ⟨rfl, hb⟩
  have N3 := Lib.hid (N2.out.trans (hb.mono N2.out.size))
  clear hb CK
  go_wp2_with fail
  refine (FE.out _ N3.out).mono ?_
  rintro e w4 ⟨B, rfl, _, rfl⟩
  clear FE
  cases B with
  | false =>
    go_wp2_with fail
    go_ret
    exact ⟨rfl, N3.out⟩
  | true =>
  by_cases hz : E = 0
  case neg =>
    have d1 : (E != 0) = true := by simp [hz]
    clear hz
    go_wp2_with fail
    go_ret
    exact ⟨rfl, N3.out⟩
  have d1 : (E != 0) = false := by simp [hz]
  subst hz
  have GG := Lib.hid CI.out.good.1
  rw [gl_of GG.out] at DU HH
  have n32 : n ≤ 32 := by rw [← HL.out]; exact GG.out.1
  clear hs
  have hmm := @run_makeMap Try.prog
  have M0 := Lib.hid (NumM.new w3)
  have B0 : Hid (Below w.heap.size w (w3.alloc (.map #[] 0))) := N3.out.alloc N3.out.size _
  obtain ⟨bm, hbm⟩ : ∃ bm, bm = w3.heap.size := ⟨_, rfl⟩
  rw [← hbm] at M0
  have WB : Hid (w.heap.size ≤ bm) := by show _ ≤ _; rw [hbm]; exact N3.out.size
  go_wp2_with fail
  clear hmm
  rw [← hbm]
  clear hbm
  go_loopw [35] (fun i wr => ∃ (k N : Nat), k ≤ n ∧ i = .int .i64 k ∧ N ≤ k * 40 ∧ NumM wr bm N (holdF l d k 0) ∧ Below w.heap.size w wr) (fun i _ => n - iv i)
  case atStart => exact ⟨0, 0, Nat.zero_le _, rfl, Nat.zero_le _, by rw [holdF_zero]; exact M0.out, B0.out⟩
  case round =>
    obtain ⟨k, N, hk, rfl, hN, hM, hB⟩ := hrel
    have NM := Lib.hid hM; have NB := Lib.hid hB; have HN := Lib.hid hN
    clear hM hB hN M0 B0
    by_cases hkn : k < n
    · obtain ⟨x, hx⟩ : ∃ x, l[k]? = some x := ⟨_, List.getElem?_eq_getElem (by rw [HL.out]; exact hkn)⟩
      obtain ⟨pb, po, hpp, ha, _⟩ := (LV.out wr NB.out).get hx
      have q0 := ha.1; have q1 := ha.2.1; have q2 := ha.2.2.1; have q3 := ha.2.2.2.1; have q4 := ha.2.2.2.2
      have zb := ha.lt
      have hkd : decide ((k : Int) < (n : Int)) = true := by simp; omega
      have hxl := List.mem_of_getElem? hx
      have ON := off_new wr x 43
      have A1 : Hid (Below w.heap.size w (wr.alloc (.cells #[.int .i64 x.id, .string x.nm, .int .i64 x.fr, .int .i64 x.un, .slice x.np x.nx.length x.nc] 43))) := NB.out.alloc NB.out.size _
      have NM1 := Lib.hid (NM.out.next ((Below.refl _ _).alloc (Nat.le_refl _) (.cells #[.int .i64 x.id, .string x.nm, .int .i64 x.fr, .int .i64 x.un, .slice x.np x.nx.length x.nc] 43)))
      have OX := Lib.hid ON
      have HX := Lib.hid hx
      have IX := Lib.hid (FF.out x hxl).1
      have DS := dut_self GG.out (d := d) hxl
      have DO := Lib.hid (fun h => dut_out GG.out (d := d) hxl h)
      have LT := Lib.hid (dutL_lt GG.out x.id d)
      have LE : Hid ((dutL l x.id d).length ≤ n) := by
        show _ ≤ _
        refine Nat.le_trans (List.length_filter_le _ _) ?_
        rw [List.length_map, HL.out]
        exact Nat.le_refl _
      obtain ⟨A, hA⟩ : ∃ A, decide (x.fr ≤ d) = A := ⟨_, rfl⟩
      obtain ⟨B, hB⟩ : ∃ B, decide (d < x.un) = B := ⟨_, rfl⟩
      have inF : inD x d = (A && B) := by unfold inD; rw [hA, hB]
      rw [inF] at DS
      have INF := Lib.hid inF; have DSS := Lib.hid DS
      have DX := Lib.hid (fun v h => DU.out x.id v h)
      obtain ⟨z9, hz9⟩ : ∃ z9, z9 = wr.heap.size := ⟨_, rfl⟩
      have HZ9 := Lib.hid hz9
      have nbm : z9 ≠ bm := by rw [hz9]; have := NM.out.lt; omega
      clear ha hx hxl inF DS ON hz9
      subst hpp
      cases A with
      | false =>
        have LL := DO.out INF.out
        go_wp2_with fail
        refine (DX.out _ A1.out).mono ?_
        rintro e w5 ⟨r, rfl, hr, hb⟩
        clear q0 q1 q2 q3 q4 zb hA hB
        obtain ⟨pd, cd, rfl, hI⟩ := hr.open'
        have N5 := Lib.hid (A1.out.trans (hb.mono A1.out.size))
        have OX5 := Lib.hid (OX.out.next hb)
        have NM5 := Lib.hid (NM1.out.next hb)
        rw [← HZ9.out] at OX5
        have DE := DSS.out
        rw [LL] at DE
        rw [LL]
        have q0 := OX5.out.1
        have zb := OX5.out.lt
        have CT0 := Contains_ints pd [] x.id cd w5 (.inl rfl) (by simp)
        rw [DE] at CT0
        have CT : Hid (Calls Try.prog 24 #[.slice pd 0 cd, .int .i64 x.id] w5 fun e w' => e = .returned (.bool false) ∧ Below w5.heap.size w5 w') := CT0
        have NXT : Hid (holdF l d k 0 = holdF l d (k + 1) 0) := by
          show _ = _
          have := holdF_next (d := d) HX.out
          rw [LL] at this
          exact this
        rw [← HZ9.out]
        clear hr hb hI OX NM1 A1 CT0 LL DE
        have g0 : decide (((0 : Nat) : Int) > 0) = false := rfl
        go_wp2_with fail
        refine CT.out.mono ?_
        rintro e w6 ⟨rfl, hb⟩
        have K6 := Lib.hid hb
        have N6 := Lib.hid (N5.out.trans (hb.mono N5.out.size))
        have ST0 := sorted_ints pd [] cd w6 (.inl rfl) (by simp) List.Pairwise.nil
        have ST : Hid (Calls Try.prog 25 #[.slice pd 0 cd] w6 fun e w' => e = .returned (.bool true) ∧ Below w6.heap.size w6 w') := ST0
        clear hb CT q0 zb ST0
        go_wp2_with fail
        refine ST.out.mono ?_
        rintro e w7 ⟨rfl, hb⟩
        have N7 := Lib.hid (N6.out.trans (hb.mono N6.out.size))
        have NM7 := Lib.hid (NM5.out.next (K6.out.trans (hb.mono K6.out.size)))
        rw [NXT.out] at NM7
        clear hb ST
        go_wp2_with fail
        refine wp_loop_rounds 1 ?_
        rw [rounds_succ]
        go_wp2_with fail
        go_roundw
        case rel => exact ⟨k + 1, N, by omega, by go_num, by have := HN.out; omega, NM7.out, N7.out⟩
        case measure => simp only [iv]; omega
      | true =>
      cases B with
      | false =>
        have LL := DO.out INF.out
        go_wp2_with fail
        refine (DX.out _ A1.out).mono ?_
        rintro e w5 ⟨r, rfl, hr, hb⟩
        clear q0 q1 q2 q3 q4 zb hA hB
        obtain ⟨pd, cd, rfl, hI⟩ := hr.open'
        have N5 := Lib.hid (A1.out.trans (hb.mono A1.out.size))
        have OX5 := Lib.hid (OX.out.next hb)
        have NM5 := Lib.hid (NM1.out.next hb)
        rw [← HZ9.out] at OX5
        have DE := DSS.out
        rw [LL] at DE
        rw [LL]
        have q0 := OX5.out.1
        have zb := OX5.out.lt
        have CT0 := Contains_ints pd [] x.id cd w5 (.inl rfl) (by simp)
        rw [DE] at CT0
        have CT : Hid (Calls Try.prog 24 #[.slice pd 0 cd, .int .i64 x.id] w5 fun e w' => e = .returned (.bool false) ∧ Below w5.heap.size w5 w') := CT0
        have NXT : Hid (holdF l d k 0 = holdF l d (k + 1) 0) := by
          show _ = _
          have := holdF_next (d := d) HX.out
          rw [LL] at this
          exact this
        rw [← HZ9.out]
        clear hr hb hI OX NM1 A1 CT0 LL DE
        have g0 : decide (((0 : Nat) : Int) > 0) = false := rfl
        go_wp2_with fail
        refine CT.out.mono ?_
        rintro e w6 ⟨rfl, hb⟩
        have K6 := Lib.hid hb
        have N6 := Lib.hid (N5.out.trans (hb.mono N5.out.size))
        have ST0 := sorted_ints pd [] cd w6 (.inl rfl) (by simp) List.Pairwise.nil
        have ST : Hid (Calls Try.prog 25 #[.slice pd 0 cd] w6 fun e w' => e = .returned (.bool true) ∧ Below w6.heap.size w6 w') := ST0
        clear hb CT q0 zb ST0
        go_wp2_with fail
        refine ST.out.mono ?_
        rintro e w7 ⟨rfl, hb⟩
        have N7 := Lib.hid (N6.out.trans (hb.mono N6.out.size))
        have NM7 := Lib.hid (NM5.out.next (K6.out.trans (hb.mono K6.out.size)))
        rw [NXT.out] at NM7
        clear hb ST
        go_wp2_with fail
        refine wp_loop_rounds 1 ?_
        rw [rounds_succ]
        go_wp2_with fail
        go_roundw
        case rel => exact ⟨k + 1, N, by omega, by go_num, by have := HN.out; omega, NM7.out, N7.out⟩
        case measure => simp only [iv]; omega
      | true =>
        go_wp2_with fail
        refine (DX.out _ A1.out).mono ?_
        rintro e w5 ⟨r, rfl, hr, hb⟩
        clear q0 q1 q2 q3 q4 zb hA hB
        obtain ⟨pd, cd, rfl, hI⟩ := hr.open'
        have N5 := Lib.hid (A1.out.trans (hb.mono A1.out.size))
        have OX5 := Lib.hid (OX.out.next hb)
        have NM5 := Lib.hid (NM1.out.next hb)
        rw [← HZ9.out] at OX5
        have ID5 := Lib.hid (fun v (h : Below w5.heap.size w5 v) => hI.next h)
        have PB0 : Hid (∀ gb go, pd = some ⟨gb, go, none⟩ → dutL l x.id d ≠ [] → gb ≠ bm) := fun gb go e h0 => by
          obtain ⟨g, cap, hr2, hge, _⟩ := hr.get h0
          injection hr2 with e1 _ _
          have e2 := e.symm.trans e1
          injection e2 with e3
          injection e3 with e4
          have := NM.out.lt
          simp at hge
          omega
        obtain ⟨L, hL⟩ : ∃ L, dutL l x.id d = L := ⟨_, rfl⟩
        rw [hL] at LT LE DSS ID5 PB0 ⊢
        have HLL := Lib.hid hL
        clear hr hb hI hL OX NM1 A1
        rw [← HZ9.out]
        have q0 := OX5.out.1
        have zb := OX5.out.lt
        have CT0 := Contains_ints pd L x.id cd w5 (ID5.out w5 (Below.refl _ _)) (by have := LE.out; omega)
        rw [DSS.out] at CT0
        have CT := Lib.hid CT0
        clear CT0
        go_wp2_with fail
        refine CT.out.mono ?_
        rintro e w6 ⟨rfl, hb⟩
        have K6 := Lib.hid hb
        have N6 := Lib.hid (N5.out.trans (hb.mono N5.out.size))
        have ST := Lib.hid (sorted_ints pd L cd w6 (ID5.out w6 hb) (by have := LE.out; omega) LT.out)
        clear hb CT q0 zb
        go_wp2_with fail
        refine ST.out.mono ?_
        rintro e w7 ⟨rfl, hb⟩
        have K7 := Lib.hid (K6.out.trans (hb.mono K6.out.size))
        have N7 := Lib.hid (N6.out.trans (hb.mono N6.out.size))
        have OX7 := Lib.hid (OX5.out.next K7.out)
        have NM7 := Lib.hid (NM5.out.next K7.out)
        have ID7 := Lib.hid (fun v (h : Below w5.heap.size w5 v) => ID5.out v h)
        clear hb ST
        obtain ⟨m, hm⟩ : ∃ m, L.length = m := ⟨_, rfl⟩
        have HM := Lib.hid hm
        have m32 : m ≤ 32 := by rw [← hm]; exact Nat.le_trans LE.out n32
        rw [hm]
        clear hm
        go_wp2_with fail
        go_loopw [78] (fun i wq => ∃ (j N' : Nat), j ≤ m ∧ i = .int .i64 j ∧ N' ≤ k * 40 + j ∧ NumM wq bm N' (holdF l d k j) ∧ Below w.heap.size w wq ∧ OffAt wq z9 0 x ∧ IntsAt wq pd L) (fun i _ => m - iv i)
        case atStart => exact ⟨0, N, Nat.zero_le _, rfl, by have := HN.out; omega, NM7.out, N7.out, OX7.out, ID7.out w7 K7.out⟩
        case round =>
          obtain ⟨j, N', hj, rfl, hN, hM, hB, hO, hI⟩ := hrel
          have NM := Lib.hid hM; have NB' := Lib.hid hB; have HN' := Lib.hid hN; have OX' := Lib.hid hO; have II := Lib.hid hI
          clear hM hB hN hO hI NM7 OX7 ID7
          by_cases hjm : j < m
          · obtain ⟨z, hz⟩ : ∃ z, L[j]? = some z := ⟨_, List.getElem?_eq_getElem (by rw [HM.out]; exact hjm)⟩
            obtain ⟨gb, go, hpd, hc⟩ := II.out.get hz
            have GBN : gb ≠ bm := PB0.out gb go hpd (by intro e; rw [e] at hz; simp at hz)
            have zb := World.block_lt_of_cell? wr _ hc
            have q0 := OX'.out.1
            have zb2 := OX'.out.lt
            have hkd2 : decide ((j : Int) < (m : Int)) = true := by simp; omega
            have HS := holdF_step GG.out HX.out (j := j) (z := z) (by rw [HLL.out]; exact hz)
            have iz : I64 z := by
              have hm2 := mem_dutL.1 (show z ∈ dutL l x.id d by rw [HLL.out]; exact List.mem_of_getElem? hz)
              obtain ⟨o, ho⟩ := hm2.1
              rw [← (fnd_some ho).2]
              exact (FF.out o (fnd_some ho).1).1
            have lk := NM.out.look iz HS.1
            have HS2 := Lib.hid HS.2
            have d0 : ((0 : Int) != 0) = false := by simp
            have KEY := key_int iz
            obtain ⟨D, mm, hown, hmm2, h3⟩ := NM.out
            have PUT := Lib.hid (fun (w' : World) h => NumM.put (w' := w') (b := bm) (x := z) (v := x.id) (hown.tidy (int_keyed Try.underlying3)) hmm2 h3 h)
            have mle : mm ≤ 100000 := by have := HN'.out; omega
            clear hz HS iz hmm2 h3
            subst hpd
            go_wp2_with (at_mapUpdate; refine wpList_mapUpdate_own _ rfl _ _ _ 39 rfl 3 3 (int_keyed Try.underlying3) Try.underlying39 _ bm mm D rfl hown (by unfold maxLen; omega) (.int .i64 z) (.int .i64 x.id) (.int .i64 z) rfl rfl KEY (.lit (.int .i64 x.id)) [] (plainElem_int Try.underlying3 IX.out.wf) ?_; intro w8 hown8 hgrow8)
            have S8 : Hid (NumM w8 bm (N' + 1) (holdF l d k (j + 1))) := by
              show NumM _ _ _ _
              rw [← HS2.out]
              exact PUT.out w8 hown8
            have B8 : Hid (Below w.heap.size w w8) := NB'.out.grown hgrow8 NB'.out.size (by intro q e; cases e; exact WB.out)
            have nz9 : some z9 ≠ some bm := fun e => nbm (Option.some.inj e)
            have O8 : Hid (OffAt w8 z9 0 x) := ⟨hgrow8.cell OX'.out.1 nz9, hgrow8.cell OX'.out.2.1 nz9, hgrow8.cell OX'.out.2.2.1 nz9, hgrow8.cell OX'.out.2.2.2.1 nz9, hgrow8.cell OX'.out.2.2.2.2 nz9⟩
            have I8 : Hid (IntsAt w8 (some ⟨gb, go, none⟩) L) := by
              rcases II.out with h | ⟨b', o', e, h⟩
              · exact .inl h
              · cases e
                exact .inr ⟨gb, go, rfl, fun i y hi => hgrow8.cell (h i y hi) (by intro e; have := Option.some.inj e; exact GBN this)⟩
            clear hown hown8 hgrow8 PUT
            go_wp2_with fail
            go_roundw
            case rel => exact ⟨j + 1, N' + 1, by omega, by go_num, by have := HN'.out; omega, S8.out, B8.out, O8.out, I8.out⟩
            case measure => simp only [iv]; omega
          · obtain rfl : j = m := by omega
            have hkd2 : decide ((j : Int) < (j : Int)) = false := by simp
            have NX : Hid (NumM wr bm N' (holdF l d (k + 1) 0)) := by
              show NumM _ _ _ _
              rw [← holdF_next HX.out, HLL.out, HM.out]
              exact NM.out
            go_wp2_with fail
            go_roundw
            case rel => exact ⟨k + 1, N', by omega, by go_num, by have := HN'.out; omega, NX.out, NB'.out⟩
            case measure => simp only [iv]; omega
    · obtain rfl : k = n := by omega
      have hkd : decide ((k : Int) < (k : Int)) = false := by simp
      have NM2 := Lib.hid NM.out; have NB2 := Lib.hid NB.out
      clear NM NB
      go_wp2_with fail
      go_loopw [94] (fun i wq => ∃ j : Nat, j ≤ k ∧ i = .int .i64 j ∧ NumM wq bm N (holdF l d k 0) ∧ Below w.heap.size w wq) (fun i _ => k - iv i)
      case atStart => exact ⟨0, Nat.zero_le _, rfl, NM2.out, NB2.out⟩
      case round =>
        obtain ⟨j, hj, rfl, hM, hB⟩ := hrel
        have NM := Lib.hid hM; have NB := Lib.hid hB
        clear hM hB NM2 NB2
        by_cases hjk : j < k
        · obtain ⟨x, hx⟩ : ∃ x, l[j]? = some x := ⟨_, List.getElem?_eq_getElem (by rw [HL.out]; exact hjk)⟩
          obtain ⟨pb, po, hpp, ha, _⟩ := (LV.out wr NB.out).get hx
          have q0 := ha.1; have q1 := ha.2.1; have q2 := ha.2.2.1; have q3 := ha.2.2.2.1; have q4 := ha.2.2.2.2
          have zb := ha.lt
          have hkd2 : decide ((j : Int) < (k : Int)) = true := by simp; omega
          have hxl := List.mem_of_getElem? hx
          have OX := Lib.hid (off_new wr x 43)
          have A1 : Hid (Below w.heap.size w (wr.alloc (.cells #[.int .i64 x.id, .string x.nm, .int .i64 x.fr, .int .i64 x.un, .slice x.np x.nx.length x.nc] 43))) := NB.out.alloc NB.out.size _
          have NM1 := Lib.hid (NM.out.next ((Below.refl _ _).alloc (Nat.le_refl _) (.cells #[.int .i64 x.id, .string x.nm, .int .i64 x.fr, .int .i64 x.un, .slice x.np x.nx.length x.nc] 43)))
          have IX := Lib.hid (FF.out x hxl).1
          have HEN : Hid (holdF l d k 0 x.id = match heirF l d x.id with | some y => y | none => 0) := by
            show _ = _
            have := holdF_end (l := l) (d := d) (z := x.id)
            rw [HL.out] at this
            exact this
          have HX := Lib.hid (HH.out x.id _ A1.out IX.out)
          clear ha hx hxl
          subst hpp
          cases hh : heirF l d x.id with
          | none =>
            rw [hh] at HX
            have H2 : Hid (Calls Try.prog 11 #[.slice (some ⟨pb, po, none⟩) k c, .int .i64 x.id, .int .i64 d] (wr.alloc (.cells #[.int .i64 x.id, .string x.nm, .int .i64 x.fr, .int .i64 x.un, .slice x.np x.nx.length x.nc] 43)) fun e w' => e = .returned (.tuple #[.int .i64 0, .bool false]) ∧ Below (wr.alloc (.cells #[.int .i64 x.id, .string x.nm, .int .i64 x.fr, .int .i64 x.un, .slice x.np x.nx.length x.nc] 43)).heap.size (wr.alloc (.cells #[.int .i64 x.id, .string x.nm, .int .i64 x.fr, .int .i64 x.un, .slice x.np x.nx.length x.nc] 43)) w') := HX.out
            have V : Hid (holdF l d k 0 x.id = 0) := by show _ = _; rw [HEN.out, hh]
            have d0 : ((0 : Int) != 0) = false := by simp
            have d5 : (false != false) = false := rfl
            clear hh HX
            go_wp2_with fail
            refine H2.out.mono ?_
            rintro e w5 ⟨rfl, hb⟩
            have N5 := Lib.hid (A1.out.trans (hb.mono A1.out.size))
            have OX5 := Lib.hid (OX.out.next hb)
            have NM5 := Lib.hid (NM1.out.next hb)
            clear hb q0 q1 q2 q3 q4 zb H2
            have q0 := OX5.out.1
            have zb := OX5.out.lt
            have lk := NM5.out.look IX.out V.out
            go_wp2_with fail
            go_roundw
            case rel => exact ⟨j + 1, by omega, by go_num, NM5.out, N5.out⟩
            case measure => simp only [iv]; omega
          | some y =>
            rw [hh] at HX
            have H2 : Hid (Calls Try.prog 11 #[.slice (some ⟨pb, po, none⟩) k c, .int .i64 x.id, .int .i64 d] (wr.alloc (.cells #[.int .i64 x.id, .string x.nm, .int .i64 x.fr, .int .i64 x.un, .slice x.np x.nx.length x.nc] 43)) fun e w' => e = .returned (.tuple #[.int .i64 y, .bool true]) ∧ Below (wr.alloc (.cells #[.int .i64 x.id, .string x.nm, .int .i64 x.fr, .int .i64 x.un, .slice x.np x.nx.length x.nc] 43)).heap.size (wr.alloc (.cells #[.int .i64 x.id, .string x.nm, .int .i64 x.fr, .int .i64 x.un, .slice x.np x.nx.length x.nc] 43)) w') := HX.out
            have V : Hid (holdF l d k 0 x.id = y) := by show _ = _; rw [HEN.out, hh]
            have y1 : 1 ≤ y := by
              obtain ⟨o, ho⟩ := heirF_fnd hh
              have := (GG.out.fine (fnd_some ho).1).id1
              rw [(fnd_some ho).2] at this
              exact this
            have d0 : (y != 0) = true := by simp; omega
            have d5 : (true != true) = false := rfl
            have d6 : (y != y) = false := by simp
            clear hh HX
            go_wp2_with fail
            refine H2.out.mono ?_
            rintro e w5 ⟨rfl, hb⟩
            have N5 := Lib.hid (A1.out.trans (hb.mono A1.out.size))
            have OX5 := Lib.hid (OX.out.next hb)
            have NM5 := Lib.hid (NM1.out.next hb)
            clear hb q0 q1 q2 q3 q4 zb H2
            have q0 := OX5.out.1
            have zb := OX5.out.lt
            have lk := NM5.out.look IX.out V.out
            go_wp2_with fail
            go_roundw
            case rel => exact ⟨j + 1, by omega, by go_num, NM5.out, N5.out⟩
            case measure => simp only [iv]; omega
        · obtain rfl : j = k := by omega
          have hkd2 : decide ((j : Int) < (j : Int)) = false := by simp
          go_wp2_with fail
          go_ret
          exact ⟨rfl, NB.out⟩

set_option maxRecDepth 100000 in
set_option maxHeartbeats 8000000 in
theorem once_lifted (os : Os) (started : os.Started) (H : Type) (enc : TypeId × Value → H) :
    ReturnsInHanded {} Try.checked os 6 .any (Rows.officeOnceSpec.pre6 enc Try.prog Try.f6 [] false) (Rows.officeOnceSpec.post enc Try.prog Try.f6 false true false false) := by
  refine returnsInHanded_of_change_shaped (C := Try.checked) own started (by kernel_rfl) Try.func6
    (ChangeSpec.witness6 (enc := enc) (C := Try.checked) false ⟨#[], #[.slice none 0 0, .int .i64 0], []⟩ 8 (by kernel_rfl) (by kernel_rfl) (by kernel_rfl) (by kernel_rfl)) ?_
  intro W base args ds gs before hval0 hW _ hsz hsh _
  have hval : ∀ (j : Nat) t v, Try.f6.params[j]? = some t → args[j]? = some v → Value.okWide Try.prog W .any base t v := hval0
  have hW' := hW
  obtain ⟨p, q, hA0, hV, rfl, hfz, hnd⟩ := hW
  have hA : DataW.TrodAll enc Try.prog W 0 (fun _ => true) true Try.f6.params.toList args.toList ds p := hA0
  rw [Try.params6] at hA hval
  obtain ⟨v0, v1, d0, d1, p0, p1, rfl, rfl, rfl, h0, h1⟩ := trodAll_two hA
  obtain ⟨rfl, rfl⟩ := trodVars_none hV
  obtain ⟨a0, c0, l0, rfl, g0, f0, s0, _⟩ := s_offs (hval 0 22 v0 rfl rfl) h0 (weights_at hsz (j := 0) rfl rfl)
  obtain ⟨x1, rfl, rfl, rfl, wx1⟩ := Go.ChangeShapes.open_int Try.underlying3 (hval 1 3 v1 rfl rfl) h1
  refine (once_law a0 c0 l0 x1 W ⟨hsh⟩ g0 f0 (i64_wf wx1) s0).mono fun e W' ⟨he, hb⟩ => ?_
  subst he
  exact ⟨_, rfl, post_true rfl rfl (by kernel_rfl) hW' rfl hb⟩

theorem once_said : Rows.OfficeOnceSaid :=
  OpenClaim.holds_of_wide 6 Try.f6 rfl rfl rfl rfl rfl rfl rfl ⟨rfl, rfl, rfl, rfl, rfl⟩ rfl rfl rfl rfl rfl (by kernel_rfl) Try.func6 (by kernel_rfl)
    (of_decide_eq_true (by kernel_rfl)) (by unfold Func.isWrapper; first | (rw [if_pos (by decide +kernel)]; kernel_rfl) | (rw [if_neg (by decide +kernel)]; exact ⟨rfl, rfl⟩))
    (fun os started H enc _ => once_lifted os started H enc)
#print axioms once_said

end Go.Proofs.Ytchaihdbljkphaa
