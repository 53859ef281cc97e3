/-
  PROVED HERE: the law archivumlaw07.PlanOnce answers true for every list of versions and two numbers. Condition: the listed variables hold what the program's text lays in them. Every input is spoken of.
-/
import Derived.Test.YtbjbioiggjhknaaDoorEy
import Derived.Test.YtbjbioiggjhknaaDoorOm
import Derived.BigQuiet
namespace Go.Proofs.YtbjbioiggjhknaaDoor
open Go Go.RowKit Go.ChangeShapes Go.WideShapes Go.ChangeAt Go.Joins Go.Maps

/-- The length of a map that the call itself made, in a region that draws its order. -/
theorem quiet_len_own {H : Type} {P : Program} {o : Oper} {a : Act} {C : World → Prop} {K : Act → Prop} (m : Operand) (t : TypeId) (hop : o.op = Op.call { callee := Callee.builtin Builtin.len, args := #[m], argTypes := #[t] })
    (k e : TypeId) (ht : P.underlying t = some (.map k e)) (R : Value → Option (DataW H × List MemPlace)) (b n : Nat) (D : DataW H) (hm : a.eval m = .map (some b)) (hown : ∀ w, C w → w.ownsMap P k R b n D) (z : Nat) (hz : Maps.size D = z)
    (hk : K (a.put o.dst (.int .i64 z))) : o.quiet P a C K :=
  ⟨_, fun w hw => by
    unfold Oper.quietAt
    simp [execOp, hop, resolve, invoke, builtin, hm, (hown w hw).len ht o.type, Result.andThen, Oper.quietUpon, hz], hk⟩

set_option maxRecDepth 100000 in
set_option maxHeartbeats 8000000 in
theorem once_law (p : Option Addr) (c : Nat) (l : List Pln) (a b : Int) (w : World) (hE : Env w) (hL : PlnsAt w p l) (hc : l.length ≤ c) (hF : ∀ y ∈ l, Fit y) (hs : l.length * 72 ≤ 140737488355328) :
    Calls Tryd.prog 3 #[.slice p l.length c, .int .i64 a, .int .i64 b] w fun e w' => e = .returned (.bool true) ∧ Below w.heap.size w w' := by
  obtain ⟨n, hl⟩ : ∃ n, l.length = n := ⟨_, rfl⟩
  rw [hl] at hc hs ⊢
  have HL := Lib.hid hl
  have EV := Lib.hid (fun (v : World) (h : Below w.heap.size w v) => hE.below h)
  have LV := Lib.hid (fun (v : World) (h : Below w.heap.size w v) => hL.next h)
  have AW := Lib.hid (awakeP_true w hE)
  have FE := Lib.hid (fun v h => FewPlans_any p n c l v (LV.out v h) hl)
  obtain ⟨I, E, hIE⟩ := chk_ex l
  have CH := Lib.hid hIE
  have FF := Lib.hid hF
  have C1 := Lib.hid (fun v h => Check_any p n c l v (EV.out v h) (LV.out v h) HL.out hc FF.out I E CH.out)
  have SZ := Lib.hid hs
  have hcc := Lib.hid hc
  clear hE hL hl hIE hF hs
  go_enter Tryd.func3, Tryd.ntmps3
  go_wp2_with fail
  refine AW.out.mono ?_
  rintro e w2 ⟨rfl, hb2⟩
  have N2 := Lib.hid hb2
  clear hb2 AW
  go_wp2_with fail
  refine (C1.out _ N2.out).mono ?_
  rintro e w3 ⟨rfl, hb⟩
  have N3 := Lib.hid (N2.out.trans (hb.mono N2.out.size))
  clear hb C1
  go_wp2_with fail
  refine (FE.out w3 N3.out).mono ?_
  rintro e w4 ⟨B, rfl, hB, hb⟩
  have N4 := Lib.hid (N3.out.trans (hb.mono N3.out.size))
  have HB := Lib.hid hB
  clear hb hB FE
  by_cases hz : E = 0
  case neg =>
    have d1 : (E != 0) = true := by simp [hz]
    clear hz
    cases B <;> {
      go_wp2_with fail
      go_ret
      exact ⟨by first | rfl | simp, N4.out⟩ }
  have d1 : (E != 0) = false := by simp [hz]
  subst hz
  cases B with
  | false =>
    go_wp2_with fail
    go_ret
    exact ⟨by first | rfl | simp, N4.out⟩
  | true =>
  by_cases u1 : a < 1
  · have v1 : decide (a < 1) = true := decide_eq_true u1
    clear u1
    go_wp2_with fail
    go_ret
    exact ⟨by first | rfl | simp, N4.out⟩
  have v1 : decide (a < 1) = false := decide_eq_false u1
  by_cases u2 : b < a
  · have v2 : decide (a > b) = true := decide_eq_true u2
    have v2' : decide (b < a) = true := decide_eq_true u2
    clear u1 u2
    go_wp2_with fail
    go_ret
    exact ⟨by first | rfl | simp, N4.out⟩
  have v2 : decide (a > b) = false := decide_eq_false u2
  have v2' : decide (b < a) = false := decide_eq_false u2
  by_cases u3 : (n : Int) < b
  · have v3 : decide (b > (n : Int)) = true := decide_eq_true u3
    have v3' : decide ((n : Int) < b) = true := decide_eq_true u3
    clear u1 u2 u3
    go_wp2_with fail
    go_ret
    exact ⟨by first | rfl | simp, N4.out⟩
  clear v1 v2 v2'
  obtain ⟨a', ha⟩ : ∃ a' : Nat, a = a' := ⟨a.toNat, by omega⟩
  obtain ⟨b', hb'⟩ : ∃ b' : Nat, b = b' := ⟨b.toNat, by omega⟩
  subst ha
  subst hb'
  have m1 : 1 ≤ a' := by omega
  have m2 : a' ≤ b' := by omega
  have m3 : b' ≤ n := by omega
  clear u1 u2 u3
  have v1 : decide ((a' : Int) < 1) = false := decide_eq_false (by omega)
  have v2 : decide ((a' : Int) > (b' : Int)) = false := decide_eq_false (by omega)
  have v2' : decide (b' < a') = false := decide_eq_false (by omega)
  have v3 : decide ((b' : Int) > (n : Int)) = false := decide_eq_false (by omega)
  have v3' : decide (n < b') = false := decide_eq_false (by omega)
  have i1 : (0 : Int) ≤ (b' : Int) - 1 := by omega
  have i2 : (b' : Int) - 1 < (n : Int) := by omega
  have i3 : ((b' : Int) - 1).toNat = b' - 1 := by omega
  have i4 : IntKind.i64.wrap ((b' : Int) - 1) = (b' : Int) - 1 := IntWalk.i64_in _ (by have := SZ.out; omega)
  have i8 : (1 : Int) ≤ (b' : Int) := by omega
  have i9 : (b' : Int) ≤ (n : Int) := by omega
  have j1 : (0 : Int) ≤ (a' : Int) - 1 := by omega
  have j2 : (a' : Int) - 1 < (n : Int) := by omega
  have j3 : ((a' : Int) - 1).toNat = a' - 1 := by omega
  have j4 : IntKind.i64.wrap ((a' : Int) - 1) = (a' : Int) - 1 := IntWalk.i64_in _ (by have := SZ.out; omega)
  have j8 : (1 : Int) ≤ (a' : Int) := by omega
  have j9 : (a' : Int) ≤ (n : Int) := by omega
  have hFL : FewL l := HB.out rfl
  clear HB
  obtain ⟨y, hy⟩ : ∃ y, l[b' - 1]? = some y := ⟨_, List.getElem?_eq_getElem (by have := HL.out; omega)⟩
  obtain ⟨x, hx⟩ : ∃ x, l[a' - 1]? = some x := ⟨_, List.getElem?_eq_getElem (by have := HL.out; omega)⟩
  obtain ⟨g, hg⟩ : ∃ g, walkF (subl l a' b') = g := ⟨_, rfl⟩
  have OF := once_facts CH.out m1 m2 hx hy
  rw [hg] at OF
  have OFF := Lib.hid OF
  clear OF
  have fx := hFL.2 x (List.mem_of_getElem? hx)
  have fy := hFL.2 y (List.mem_of_getElem? hy)
  have SC := Lib.hid (fun (z : Pr) (hz : z ∈ y.cs) v h => (Sources_any p n c l a' b' z.c v (EV.out v h) (LV.out v h) HL.out hcc.out (by have := SZ.out; omega) FF.out I 0 CH.out (by have := (fy.2.2.1 z hz).1; omega) (fun q hq => by have := (hFL.2 q hq).1; omega)).mono
    (R' := fun e w' => ∃ q cc, e = .returned (.tuple #[.slice q (srcOf g x.cs z).length cc, .int .i64 0]) ∧ RowB w' v.heap.size q (srcOf g x.cs z) ∧ Below v.heap.size v w') (by
      rintro e w' ⟨u, r, rfl, h1, h2⟩
      obtain ⟨e0, h3⟩ := src_get h1 m1 m2 (by rw [HL.out]; exact m3) hx hy (has_iff.2 ⟨z, hz, rfl⟩)
      rw [hg] at h3
      obtain ⟨q, cc, e1, h4⟩ := row_open h3
      subst e0
      subst e1
      exact ⟨q, cc, rfl, h4, h2⟩))
  have FC := Lib.hid (fun (z : Pr) (hz : z ∈ x.cs) v h => Follow_any p n c l a' b' z.c v (EV.out v h) (LV.out v h) HL.out hcc.out (by have := SZ.out; omega) FF.out I 0 CH.out (by have := (fx.2.2.1 z hz).1; omega) (g z.c) 0
    (.inr (.inr ⟨rfl, a', b', x, rfl, rfl, m1, m2, by rw [HL.out]; exact m3, hx, .inr ⟨has_iff.2 ⟨z, hz, rfl⟩, by rw [hg], rfl⟩⟩)))
  obtain ⟨m, hm⟩ : ∃ m, y.cs.length = m := ⟨_, rfl⟩
  obtain ⟨k, hk⟩ : ∃ k, x.cs.length = k := ⟨_, rfl⟩
  obtain ⟨blk, off, hp, _⟩ := (LV.out w4 N4.out).get hy
  subst hp
  have YA := Lib.hid (fun v h => show v.cell? ⟨blk, off + (b' - 1) * 5 + 3, none⟩ = some (.slice y.cp m y.cc) ∧ PrsAt v y.cp y.cs from by
    obtain ⟨blk', off', e, k1, k2⟩ := (LV.out v h).get hy
    cases e
    have := k1.2.2.2.1
    rw [hm] at this
    exact ⟨this, k2.1⟩)
  have XA := Lib.hid (fun v h => show v.cell? ⟨blk, off + (a' - 1) * 5 + 3, none⟩ = some (.slice x.cp k x.cc) ∧ PrsAt v x.cp x.cs from by
    obtain ⟨blk', off', e, k1, k2⟩ := (LV.out v h).get hx
    cases e
    have := k1.2.2.2.1
    rw [hk] at this
    exact ⟨this, k2.1⟩)
  have zb := (World.block_lt_of_cell? w4 _ (YA.out w4 N4.out).1)
  have HM := Lib.hid hm; have HK := Lib.hid hk; have FX := Lib.hid fx; have FY := Lib.hid fy
  have GI := Lib.hid hg
  have mb : m ≤ 129 := by have := fy.1; omega
  have kb : k ≤ 129 := by have := fx.1; omega
  clear hm hk fx fy hFL hy hx hg CH FF EV LV
  have hmm := @run_makeMap Tryd.prog
  have S0 := Lib.hid (StrM.new w4)
  have B0 : Hid (Below w.heap.size w (w4.alloc (.map #[] 0))) := N4.out.alloc N4.out.size _
  have y3 := (YA.out _ B0.out).1
  go_wp2_with fail
  clear hmm y3
  obtain ⟨bm, hbm⟩ : ∃ bm, bm = w4.heap.size := ⟨_, rfl⟩
  have WM : Hid (w.heap.size ≤ bm) := by
    show _ ≤ _
    rw [hbm]
    exact N4.out.size
  rw [← hbm] at S0 ⊢
  clear hbm
  go_loopw [57] (fun i wr => ∃ j : Nat, j ≤ m ∧ i = .int .i64 j ∧ StrM wr bm (pairs g x.cs (y.cs.take j)) ∧ Below w.heap.size w wr) (fun i _ => m - (intOf i).toNat)
  case atStart => exact ⟨0, Nat.zero_le _, rfl, by rw [List.take_zero]; exact S0.out, B0.out⟩
  case round =>
    obtain ⟨j, hj, rfl, hset, hb⟩ := hrel
    have ST := Lib.hid hset
    have BB := Lib.hid hb
    clear hset hb S0 B0
    by_cases hlt : j < m
    · obtain ⟨z, hz⟩ : ∃ z, y.cs[j]? = some z := ⟨_, List.getElem?_eq_getElem (by rw [HM.out]; exact hlt)⟩
      obtain ⟨zk, zo, hnp, hpc⟩ := (YA.out wr BB.out).2.get hz
      have q0 := hpc.1; have q1 := hpc.2
      have zb2 := hpc.lt
      have hkd : decide ((j : Int) < (m : Int)) = true := by simp; omega
      have HZ := Lib.hid hz
      have zs := (FY.out.2.2.1 z (List.mem_of_getElem? hz)).1
      have SCz := Lib.hid (SC.out z (List.mem_of_getElem? hz))
      have ZS := Lib.hid zs
      clear hpc hz zs
      rw [hnp]
      have IV : Hid (Below w.heap.size w (wr.alloc (.cells #[.string z.c, .string z.t] 36))) := BB.out.alloc BB.out.size _
      go_wp2_with fail
      refine (SCz.out _ IV.out).mono ?_
      rintro e w5 ⟨q, cc, rfl, hrow, hb⟩
      have YB := Lib.hid ((pr_new wr z 36).next hb)
      have ST5 := Lib.hid ((ST.out.next ((Below.refl _ _).alloc (Nat.le_refl _) (.cells #[.string z.c, .string z.t] 36))).next hb)
      have BB5 := Lib.hid (IV.out.trans (hb.mono IV.out.size))
      have bmz := ST.out.lt
      have RW5 := Lib.hid hrow
      have zz : wr.heap.size < (wr.alloc (.cells #[.string z.c, .string z.t] 36)).heap.size := by simp
      obtain ⟨B5, hB5⟩ : ∃ B5, B5 = (wr.alloc (.cells #[.string z.c, .string z.t] 36)).heap.size := ⟨_, rfl⟩
      rw [← hB5] at RW5 zz
      obtain ⟨z2, hz2⟩ : ∃ z2, z2 = wr.heap.size := ⟨_, rfl⟩
      rw [← hz2] at YB zz bmz ⊢
      have BZ := Lib.hid bmz
      have ZZ := Lib.hid zz
      have HS := Lib.hid (OFF.out)
      obtain ⟨S, hS⟩ : ∃ S, S = srcOf g x.cs z := ⟨_, rfl⟩
      rw [← hS] at RW5 ⊢
      have HSS := Lib.hid hS
      obtain ⟨N, hN⟩ : ∃ N, S.length = N := ⟨_, rfl⟩
      rw [hN]
      have HN := Lib.hid hN
      have NK : Hid (S.length ≤ 129) := by
        show _ ≤ _
        rw [hS]
        have := List.length_filter_le (fun t => decide (g t.c = z.c)) x.cs
        have := FX.out.1
        unfold srcOf
        omega
      have nb : N ≤ 129 := by have := NK.out; have := HN.out; omega
      clear hrow hb hB5 hz2 bmz zz hS hN q0 q1 zb2 IV
      go_wp2_with fail
      go_loopw [74] (fun i wq => ∃ t : Nat, t ≤ N ∧ i = .int .i64 t ∧ StrM wq bm (pairs g x.cs (y.cs.take j) ++ (S.take t).map (fun u => (u.c, z.c))) ∧ Below w.heap.size w wq ∧ RowB wq B5 q S ∧ PrAt wq z2 0 z) (fun i _ => N - (intOf i).toNat)
      case atStart => exact ⟨0, Nat.zero_le _, rfl, by rw [List.take_zero, List.map_nil, List.append_nil]; exact ST5.out, BB5.out, RW5.out, YB.out⟩
      case round =>
        obtain ⟨t, ht, rfl, hset, hb, hrow, hpz⟩ := hrel
        have ST6 := Lib.hid hset
        have BB6 := Lib.hid hb
        have RW6 := Lib.hid hrow
        have YB6 := Lib.hid hpz
        clear hset hb hrow hpz ST5 BB5 RW5 YB
        by_cases htn : t < N
        · obtain ⟨s, hs⟩ : ∃ s, S[t]? = some s := ⟨_, List.getElem?_eq_getElem (by rw [HN.out]; exact htn)⟩
          obtain ⟨g2, hq2, c1⟩ := RW6.out.get hs
          have hkd2 : decide ((t : Int) < (N : Int)) = true := by simp; omega
          have zg := World.block_lt_of_cell? wr _ c1
          have p0 := YB6.out.1
          have zz2 := YB6.out.lt
          have FRESH : Hid (hasE (pairs g x.cs (y.cs.take j) ++ (S.take t).map (fun u => (u.c, z.c))) s.c = false) := by
            show _ = _
            rw [HSS.out]
            exact fresh_key OFF.out.1 OFF.out.2.1 HZ.out (by rw [← HSS.out]; exact hs)
          have MT := Lib.hid (map_take hs (c := z.c) (pairs g x.cs (y.cs.take j)))
          have sx : s ∈ x.cs := by
            have := List.mem_of_getElem? hs
            rw [HSS.out] at this
            exact (List.mem_filter.1 this).1
          have ss := (FX.out.2.2.1 s sx).1
          have KEY := WideMaps.keyOf_string_mk Tryd.underlying9 (s := s.c) (by unfold maxLen; omega)
          have LK := ST6.out.look s.c (by unfold maxLen; omega)
          rw [lookE_no FRESH.out] at LK
          have PF : Hid ((pairs g x.cs (y.cs.take j) ++ (S.take t).map (fun u => (u.c, z.c))).length ≤ 20000) := pairs_few FX.out.1 FY.out.1 NK.out
          obtain ⟨D, hown, hsz, hD, hhas⟩ := ST6.out
          have PUT := Lib.hid (fun (w' : World) h => StrM.put (w' := w') (b := bm) s.c z.c (hown.tidy (string_keyed Tryd.underlying9)) hsz hD hhas FRESH.out h)
          obtain ⟨L, hL⟩ : ∃ L, L = (pairs g x.cs (y.cs.take j) ++ (S.take t).map (fun u => (u.c, z.c))).length := ⟨_, rfl⟩
          have PF2 : L ≤ 20000 := by rw [hL]; exact PF.out
          rw [← hL] at PUT hown
          clear hs sx hsz hD hhas hL PF FRESH ss
          rw [hq2]
          go_wp2_with (at_mapUpdate; refine wpList_mapUpdate_own _ rfl _ _ _ 28 rfl 9 9 (string_keyed Tryd.underlying9) Tryd.underlying28 _ bm L D rfl hown (by unfold maxLen; omega) (.string s.c) (.string z.c) (.string s.c.data.toList) rfl rfl KEY (litD z.c) [] (plainElem_string Tryd.underlying9 (by have := ZS.out; unfold maxLen; omega)) ?_; intro w7 hown7 hgrow7)
          have S7 := Lib.hid (PUT.out w7 hown7)
          have BB7 := Lib.hid (BB6.out.grown hgrow7 BB6.out.size (by intro q e; cases e; exact WM.out))
          have RW7 := Lib.hid (RW6.out.grown hgrow7 (by have := BZ.out; have := ZZ.out; omega))
          have YB7 := Lib.hid (YB6.out.grown hgrow7 (by have := BZ.out; omega))
          clear hown hown7 hgrow7 PUT
          go_wp2_with fail
          go_roundw
          case rel => exact ⟨t + 1, by omega, by go_num, by rw [MT.out]; exact S7.out, BB7.out, by rw [← hq2]; exact RW7.out, YB7.out⟩
          case measure => simp [intOf]; omega
        · obtain rfl : t = N := by omega
          have hkd2 : decide ((t : Int) < (t : Int)) = false := by simp
          have ST7 : Hid (StrM wr bm (pairs g x.cs (y.cs.take (j + 1)))) := by
            show StrM _ _ _
            have := ST6.out
            rw [← HN.out, List.take_length] at this
            rw [pairs_take HZ.out, ← HSS.out]
            exact this
          clear ST6
          go_wp2_with fail
          go_roundw
          case rel => exact ⟨j + 1, by omega, by go_num, ST7.out, BB6.out⟩
          case measure => simp [intOf]; omega
    · obtain rfl : j = m := by omega
      have hkd : decide ((j : Int) < (j : Int)) = false := by simp
      have ST2 : Hid (StrM wr bm (pairs g x.cs y.cs)) := by
        have := ST.out
        rw [← HM.out, List.take_length] at this
        exact this
      have x3 := (XA.out wr BB.out).1
      have BB2 := Lib.hid BB.out
      have ST3 := Lib.hid ST2.out
      clear ST BB ST2
      go_wp2_with fail
      clear x3
      go_loopw [95] (fun i wq => ∃ t : Nat, t ≤ k ∧ i = .int .i64 t ∧ StrM wq bm (pairs g x.cs y.cs) ∧ Below w.heap.size w wq) (fun i _ => k - (intOf i).toNat)
      case atStart => exact ⟨0, Nat.zero_le _, rfl, ST3.out, BB2.out⟩
      case round =>
        obtain ⟨t, ht, rfl, hset, hb⟩ := hrel
        have ST := Lib.hid hset
        have BB := Lib.hid hb
        clear hset hb ST3 BB2
        by_cases hlt : t < k
        · obtain ⟨z, hz⟩ : ∃ z, x.cs[t]? = some z := ⟨_, List.getElem?_eq_getElem (by rw [HK.out]; exact hlt)⟩
          obtain ⟨zk, zo, hnp, hpc⟩ := (XA.out wr BB.out).2.get hz
          have q0 := hpc.1; have q1 := hpc.2
          have zb2 := hpc.lt
          have hkd2 : decide ((t : Int) < (k : Int)) = true := by simp; omega
          have zm := List.mem_of_getElem? hz
          have zs := (FX.out.2.2.1 z zm).1
          have FCz := FC.out z zm
          have IS : lookE (pairs g x.cs y.cs) z.c = g z.c := lookE_is zm (OFF.out.2.2 z zm)
          obtain ⟨R, hR⟩ : ∃ R, R = g z.c := ⟨_, rfl⟩
          rw [← hR] at FCz IS
          have FCZ := Lib.hid FCz
          have IS2 := Lib.hid IS
          clear hpc hz hR FCz IS zm
          rw [hnp]
          have IV : Hid (Below w.heap.size w (wr.alloc (.cells #[.string z.c, .string z.t] 36))) := BB.out.alloc BB.out.size _
          go_wp2_with fail
          refine (FCZ.out _ IV.out).mono ?_
          rintro e w5 ⟨rfl, hb⟩
          have YB := Lib.hid ((pr_new wr z 36).next hb)
          have ST5 := Lib.hid ((ST.out.next ((Below.refl _ _).alloc (Nat.le_refl _) (.cells #[.string z.c, .string z.t] 36))).next hb)
          have BB5 := Lib.hid (IV.out.trans (hb.mono IV.out.size))
          have p0 := YB.out.1
          have zz2 := YB.out.lt
          have LK := ST5.out.look z.c (by unfold maxLen; omega)
          rw [IS2.out] at LK
          have f2 := ba_eq' (rfl : R = R)
          clear hb IV q0 q1
          go_wp2_with fail
          go_roundw
          case rel => exact ⟨t + 1, by omega, by go_num, ST5.out, BB5.out⟩
          case measure => simp [intOf]; omega
        · obtain rfl : t = k := by omega
          have hkd2 : decide ((t : Int) < (t : Int)) = false := by simp
          have x3 := (XA.out wr BB.out).1
          have xb := World.block_lt_of_cell? wr _ x3
          obtain ⟨D, hown, hsz, _, _⟩ := ST.out
          rw [pairs_len OFF.out.2.1 x.cs OFF.out.2.2, HK.out] at hsz
          obtain ⟨L, hL⟩ : ∃ L, L = (pairs g x.cs y.cs).length := ⟨_, rfl⟩
          rw [← hL] at hown
          clear hL
          have LEN : ∀ (nq : Nat) (ty : TypeId), (Builtin.len_ #[28] ty #[.map (some bm)]).run Tryd.prog (wr.drewN nq) = .ok (.int .i64 (t : Int)) (wr.drewN nq) := fun nq ty => by
            have h : (wr.drewN nq).ownsMap Tryd.prog 9 (plainElem Tryd.prog 9) bm L D := hown
            have := h.len Tryd.underlying28 ty
            rw [hsz] at this
            exact this
          go_wp2_with fail
          refine wp_region_quiet_lit (by kernel_rfl) (by kernel_rfl) ?_
          go_big_quiet_step (fail)
          go_big_quiet_want
          go_big_quiet_op
          go_big_quiet_on
          repeat (go_big_quiet_step (fail))
          refine wpQuiet_nil ?_
          intro _ hw'
          obtain ⟨nq, hw''⟩ := hw'
          subst hw''
          try (go_wp2_with fail)
          go_ret
          exact ⟨by first | rfl | simp [hsz], by first | exact below_drewN BB.out _ | exact BB.out⟩

set_option maxRecDepth 100000 in
set_option maxHeartbeats 8000000 in
theorem once_lifted (os : Os) (started : os.Started) (H : Type) (enc : TypeId × Value → H) :
    ReturnsInHanded {} Tryd.checked os 3 .any (fun w args => (Rows.planOnceSpec.pre enc Tryd.prog Tryd.f3 [] false w args ∧ laidMetH Tryd.prog laid7 w) ∧ sizedMet enc Tryd.prog Tryd.f3 (OpenSpec.ofChange Rows.planOnceSpec) false w args)
      (Rows.planOnceSpec.post enc Tryd.prog Tryd.f3 false true false false) := by
  refine wrap_sized (s := Rows.planOnceSpec) started (by kernel_rfl) Tryd.func3
    (ChangeSpec.witness_shaped (enc := enc) (C := Tryd.checked) (os := os) (X := fun w _ => laidMetH Tryd.prog laid7 w) false (World.laidAll Tryd.prog os laid7) #[.slice none 0 0, .int .i64 0, .int .i64 0] 8 (World.laidAll_os _ _ _)
      (World.shaped_of_ZipB (by kernel_rfl) (by kernel_rfl)) (by kernel_rfl) (by kernel_rfl) (by kernel_rfl) (laid_met os _)) rfl ?_
  intro W base args ds gs before hval0 hW hSZ hE
  have hval : ∀ (j : Nat) t v, Tryd.f3.params[j]? = some t → args[j]? = some v → Value.okWide Tryd.prog W .any base t v := hval0
  have hW' := hW
  obtain ⟨p, q, hA0, hV, rfl, hfz, hnd⟩ := hW
  have hA : DataW.TrodAll enc Tryd.prog W 0 (fun _ => true) true Tryd.f3.params.toList args.toList ds p := hA0
  rw [Tryd.params3] at hA hval
  obtain ⟨v0, v1, v2, d0, d1, d2, p0, p1, p2, rfl, rfl, rfl, h0, h1, h2⟩ := trodAll_three hA
  obtain ⟨rfl, rfl⟩ := trodVars_none hV
  obtain ⟨a0, c0, l0, rfl, g0, k0, ft0, sl0⟩ := s_plns (hval 0 22 v0 rfl rfl) h0 (fun n hn => hSZ n (by rw [Tryd.params3]; exact List.mem_append_left _ hn))
  obtain ⟨i1, rfl, rfl, rfl, w1⟩ := Go.ChangeShapes.open_int Tryd.underlying3 (hval 1 3 v1 rfl rfl) h1
  obtain ⟨i2, rfl, rfl, rfl, w2⟩ := Go.ChangeShapes.open_int Tryd.underlying3 (hval 2 3 v2 rfl rfl) h2
  refine (once_law a0 c0 l0 i1 i2 W hE g0 k0 ft0 sl0).mono fun e W' ⟨he, hb⟩ => ?_
  subst he
  exact ⟨_, rfl, post_true rfl rfl (by kernel_rfl) hW' rfl hb⟩

theorem once_said : Rows.PlanOnceSaid :=
  OpenClaim.holds_of_wide 3 Tryd.f3 rfl rfl rfl rfl rfl rfl rfl ⟨rfl, rfl, rfl, rfl, rfl⟩ rfl rfl rfl rfl rfl (by kernel_rfl) Tryd.func3 (by kernel_rfl)
    (of_decide_eq_true (by kernel_rfl)) (by unfold Func.isWrapper; first | (rw [if_pos (by decide +kernel)]; kernel_rfl) | (rw [if_neg (by decide +kernel)]; exact ⟨rfl, rfl⟩))
    (fun os started H enc _ => once_lifted os started H enc)

theorem once_holds : Rows.PlanOnceCardSaid :=
  Claim7.holds_tied_plain_at .later [] [.data, .data, .data, .data, .sentinel, .sentinel, .pinned] true (true, "2a984d467a553124131e0f87ff62d4649f814989eb44197dcc2025152144ab1d") true
    once_said (fun _ h => by cases h) (by kernel_rfl) (fun _ h => by cases h) planOnce_row_tie rfl ⟨rfl, rfl⟩ (by kernel_rfl) rfl
    (fun f fn hf hfn => by
      obtain rfl : f = 3 := Option.some.inj ((show Tryd.prog.funcNamed "archivum/archivumlaw07.PlanOnce" = some 3 by kernel_rfl).symm.trans hf) |>.symm
      obtain rfl : fn = Tryd.f3 := (Option.some.inj (Tryd.func3.symm.trans hfn)).symm
      exact ⟨by kernel_rfl, fun j t ht => by
        rw [Tryd.params3] at ht
        have hm : t ∈ [22, 3, 3] := by simpa using Array.mem_of_getElem? ht
        have hall : ([22, 3, 3].all fun u => !Tryd.prog.wantsStandIn u) = true := by kernel_rfl
        exact (show Tryd.prog.wantsStandIn t = false by simpa using List.all_eq_true.1 hall t hm)⟩)
    (by kernel_rfl)
#print axioms once_holds

end Go.Proofs.YtbjbioiggjhknaaDoor
