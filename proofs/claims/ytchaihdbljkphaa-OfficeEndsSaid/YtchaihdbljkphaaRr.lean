/-
  Reach of the reference. No statement of the seat is proved here.
-/
import Derived.Test.YtchaihdbljkphaaRh
namespace Go.Proofs.Ytchaihdbljkphaa
open Go Go.RowKit Go.Maps Go.Joins

/-- What the reference has seen so far: the successors of the first k are there. -/
structure Seen (l : List Off) (id : Int) (T : List Int) (k : Nat) : Prop where
  le : k ≤ T.length
  me : id ∈ T
  rc : ∀ z ∈ T, Rc l id z
  len : T.length + unr l T ≤ l.length
  did : ∀ j z x, j < k → T[j]? = some z → fnd l z = some x → ∀ y ∈ x.nx, y ∈ T
/-- .. and the first j successors of the next one. -/
structure SeenJ (l : List Off) (id : Int) (T : List Int) (k : Nat) (x : Off) (j : Nat) : Prop where
  se : Seen l id T k
  at_ : ∃ z, T[k]? = some z ∧ fnd l z = some x
  nx : ∀ i y, i < j → x.nx[i]? = some y → y ∈ T
theorem Seen.start {l : List Off} {id : Int} {x : Off} (h : fnd l id = some x) : Seen l id [id] 0 := by
  refine ⟨Nat.zero_le _, by simp, fun z hz => ?_, ?_, fun j z x hj => absurd hj (Nat.not_lt_zero _)⟩
  · obtain rfl := List.mem_singleton.1 hz
    exact .here h
  · have h1 := unr_lt (l := l) (S := []) (T := [id]) (fun z hz => by cases hz) (fnd_some h).1 (by simp) (by rw [(fnd_some h).2]; simp)
    have h2 : unr l [] ≤ l.length := List.length_filter_le _ _
    simp only [List.length_singleton]
    omega
theorem SeenJ.keep {l : List Off} {id : Int} {T : List Int} {k j : Nat} {x : Off} (h : SeenJ l id T k x j) {y : Int} (hy : x.nx[j]? = some y) (hm : y ∈ T) : SeenJ l id T k x (j + 1) := by
  refine ⟨h.se, h.at_, fun i q hi hq => ?_⟩
  rcases (show i < j ∨ i = j by omega) with g | g
  · exact h.nx i q g hq
  · subst g
    obtain rfl := Option.some.inj (hy.symm.trans hq)
    exact hm
theorem SeenJ.add {l : List Off} {id : Int} {T : List Int} {k j : Nat} {x : Off} (hg : GoodO l) (h : SeenJ l id T k x j) {y : Int} (hy : x.nx[j]? = some y) (hm : y ∉ T) : SeenJ l id (T ++ [y]) k x (j + 1) := by
  obtain ⟨z, hz, hx⟩ := h.at_
  have hz1 := (List.getElem?_eq_some_iff.1 hz).1
  obtain ⟨o, ho, _⟩ := (hg.fine (fnd_some hx).1).nxt y (List.mem_of_getElem? hy)
  have h1 := unr_lt (l := l) (S := T) (T := T ++ [y]) (fun z hz => List.mem_append_left _ hz) (fnd_some ho).1 (by rw [(fnd_some ho).2]; exact hm) (by rw [(fnd_some ho).2]; simp)
  refine ⟨⟨?_, List.mem_append_left _ h.se.me, fun q hq => ?_, ?_, fun i q o2 hi hq ho2 r hr => ?_⟩, ⟨z, ?_, hx⟩, fun i q hi hq => ?_⟩
  · rw [List.length_append]; have := h.se.le; omega
  · rcases List.mem_append.1 hq with g | g
    · exact h.se.rc q g
    · rw [List.mem_singleton.1 g]
      exact (h.se.rc z (List.mem_of_getElem? hz)).trans (.next hx (List.mem_of_getElem? hy) (.here ho))
  · rw [List.length_append, List.length_singleton]
    have := h.se.len
    omega
  · have hi2 : i < T.length := Nat.lt_of_lt_of_le hi h.se.le
    rw [List.getElem?_append_left hi2] at hq
    exact List.mem_append_left _ (h.se.did i q o2 hi hq ho2 r hr)
  · rw [List.getElem?_append_left hz1]; exact hz
  · rcases (show i < j ∨ i = j by omega) with g | g
    · exact List.mem_append_left _ (h.nx i q g hq)
    · subst g
      obtain rfl := Option.some.inj (hy.symm.trans hq)
      simp
theorem SeenJ.done {l : List Off} {id : Int} {T : List Int} {k : Nat} {x : Off} (h : SeenJ l id T k x x.nx.length) : Seen l id T (k + 1) := by
  obtain ⟨z, hz, hx⟩ := h.at_
  refine ⟨(List.getElem?_eq_some_iff.1 hz).1, h.se.me, h.se.rc, h.se.len, fun i q o hi hq ho r hr => ?_⟩
  rcases (show i < k ∨ i = k by omega) with g | g
  · exact h.se.did i q o g hq ho r hr
  · subst g
    obtain rfl := Option.some.inj (hz.symm.trans hq)
    obtain rfl := Option.some.inj (hx.symm.trans ho)
    obtain ⟨t, ht⟩ := List.getElem?_of_mem hr
    exact h.nx t r (List.getElem?_eq_some_iff.1 ht).1 ht
theorem Seen.all {l : List Off} {id : Int} {T : List Int} (h : Seen l id T T.length) (z : Int) : z ∈ T ↔ Rc l id z := by
  constructor
  · exact h.rc z
  · intro hz
    have key : ∀ a, Rc l a z → a ∈ T → z ∈ T := by
      intro a ha
      induction ha with
      | here => exact fun h => h
      | next k1 k2 _ ih =>
        intro hm
        obtain ⟨j, hj⟩ := List.getElem?_of_mem hm
        exact ih hz (h.did j _ _ (List.getElem?_eq_some_iff.1 hj).1 hj k1 _ k2)
    exact key id hz h.me
/-- The offices of a list whose IDs are among some numbers. -/
def pick (l : List Off) (T : List Int) : List Int := (l.map (·.id)).filter fun z => decide (z ∈ T)
theorem pick_snoc (l : List Off) (x : Off) (T : List Int) : pick (l ++ [x]) T = if x.id ∈ T then pick l T ++ [x.id] else pick l T := by
  unfold pick
  rw [List.map_append, List.filter_append]
  by_cases h : x.id ∈ T
  · rw [if_pos h]; simp [h]
  · rw [if_neg h]; simp [h]
theorem pick_all {l : List Off} {id : Int} {T : List Int} (h : ∀ z, z ∈ T ↔ Rc l id z) : pick l T = reachL l id := by
  unfold pick reachL
  refine List.filter_congr fun z _ => ?_
  by_cases g : z ∈ T
  · have := (h z).1 g
    simp [g, this]
  · have : ¬ Rc l id z := fun k => g ((h z).2 k)
    simp [g, this]
theorem pick_le (l : List Off) (T : List Int) : (pick l T).length ≤ l.length := by
  unfold pick
  exact Nat.le_trans (List.length_filter_le _ _) (by rw [List.length_map]; exact Nat.le_refl _)
theorem row_one (w : World) (x : Int) : IRow (w.alloc (.cells #[.int .i64 x] 3)) w.heap.size (.slice (some ⟨w.heap.size, 0, none⟩) 1 1) [x] := by
  refine ⟨rfl, .inr ⟨w.heap.size, 1, #[.int .i64 x], rfl, Nat.le_refl _, ?_, Nat.le_refl _, by unfold maxLen; omega, rfl, rfl⟩⟩
  exact show (w.heap.push _)[w.heap.size]? = _ by simp

theorem row_base {w : World} {B : Nat} {v : Value} {l : List Int} (h : IRow w B v l) (h0 : l ≠ []) : B ≤ w.heap.size := by
  obtain ⟨g, cap, hv, hB, hc⟩ := h.get h0
  obtain ⟨z, hz⟩ : ∃ z, l[0]? = some z := ⟨_, List.getElem?_eq_getElem (List.length_pos_iff.2 h0)⟩
  have := World.block_lt_of_cell? w _ (hc 0 z hz)
  exact Nat.le_of_lt (Nat.lt_of_le_of_lt hB this)

set_option maxRecDepth 100000 in
set_option maxHeartbeats 8000000 in
theorem refReach_any (p : Option Addr) (n c : Nat) (l : List Off) (id : Int) (w : World) (hL : OffsAt w p l) (hl : l.length = n) (hn : n ≤ 1000) (hF : ∀ x ∈ l, FitO x) :
    Calls Try.prog 17 #[.slice p n c, .int .i64 id] w fun e w' => ∃ r, e = .returned r ∧ IRow w' w.heap.size r (reachL (gl l) id) ∧ Below w.heap.size w w' := by
  have HL := Lib.hid hl
  have LV := Lib.hid (fun (v : World) (h : Below w.heap.size w v) => hL.next h)
  have FF := Lib.hid hF
  obtain ⟨I, E, hIE⟩ := ochk_ex l
  have CI := Lib.hid hIE
  have GO := Lib.hid (good_any p n c l w hL hl hn hF I E hIE)
  have FD := Lib.hid (fun z v h => refFind_any p n c l z v (LV.out v h) hl hn)
  obtain ⟨RL, hRL⟩ : ∃ RL, reachL (gl l) id = RL := ⟨_, rfl⟩
  rw [hRL]
  have HRL := Lib.hid hRL
  clear hL hl hF hIE hRL
  go_enter Try.func17, Try.ntmps17
  go_wp2_with fail
  refine GO.out.mono ?_
  rintro e w1 ⟨rfl, hb⟩
  have N1 := Lib.hid hb
  clear hb GO
  by_cases hz : E = 0
  case neg =>
    have dz : (E == 0) = false := by simp [hz]
    rw [dz]
    have T : Hid (RL = []) := by show _ = _; rw [← HRL.out, gl_no (CI.out.bad hz)]; exact reachL_none rfl
    clear hz
    go_wp2_with fail
    go_ret
    exact ⟨_, rfl, by rw [T.out]; exact World.ownsRow_nil _ _ _ _, N1.out⟩
  subst hz
  have dz : ((0 : Int) == 0) = true := rfl
  rw [dz]
  have GG := Lib.hid CI.out.good.1
  rw [gl_of GG.out] at HRL
  go_wp2_with fail
  refine (FD.out id _ N1.out).mono ?_
  rintro e w2 ⟨rfl, rfl⟩
  cases hf : fnd l id with
  | none =>
    rw [fixV_none hf]
    have T : Hid (RL = []) := by show _ = _; rw [← HRL.out]; exact reachL_none hf
    clear hf
    go_wp2_with fail
    go_ret
    exact ⟨_, rfl, by rw [T.out]; exact World.ownsRow_nil _ _ _ _, N1.out⟩
  | some x0 =>
  obtain ⟨k0, hk0, hlk0, hkn0⟩ := fixV_some hf
  rw [hk0]
  have dk : decide ((k0 : Int) < 0) = false := decide_eq_false (by omega)
  obtain ⟨pb, po, hpp, _⟩ := (LV.out w1 N1.out).get hlk0
  subst hpp
  have S0 := Lib.hid (Seen.start hf)
  have R0 := Lib.hid (row_one w1 id)
  have B1 : Hid (Below w.heap.size w (w1.alloc (.cells #[.int .i64 id] 3))) := N1.out.alloc N1.out.size _
  obtain ⟨b0, hb0⟩ : ∃ b0, b0 = w1.heap.size := ⟨_, rfl⟩
  rw [← hb0] at R0
  have BL : Hid (w.heap.size ≤ b0) := by show _ ≤ _; rw [hb0]; exact N1.out.size
  clear hf hk0 hlk0 hkn0
  go_wp2_with fail
  rw [← hb0]
  clear hb0
  go_loopw [5, 6] (fun sv i wr => ∃ (k : Nat) (T : List Int), i = .int .i64 k ∧ Seen l id T k ∧ IRow wr b0 sv T ∧ Below w.heap.size w wr) (fun _ i _ => n - iv i)
  case atStart => exact ⟨0, [id], rfl, S0.out, R0.out, B1.out⟩
  case round =>
    obtain ⟨k, T, rfl, hS, hrow, hB⟩ := hrel
    have SE := Lib.hid hS; have NB := Lib.hid hB; have RW := Lib.hid hrow
    have T0 : T ≠ [] := by intro e; have := hS.me; rw [e] at this; cases this
    obtain ⟨g, cap, hv, _, hcell⟩ := hrow.get T0
    subst hv
    have TN : T.length ≤ n := by have := hS.len; have := HL.out; omega
    have kT := hS.le
    obtain ⟨t, ht⟩ : ∃ t, T.length = t := ⟨_, rfl⟩
    rw [ht] at RW TN kT ⊢
    have HT := Lib.hid ht
    clear hS hB hrow S0 R0 B1 ht
    by_cases hkt : k < t
    · obtain ⟨z, hz⟩ : ∃ z, T[k]? = some z := ⟨_, List.getElem?_eq_getElem (by rw [HT.out]; exact hkt)⟩
      have c0 := hcell k z hz
      obtain ⟨x, hx⟩ := (SE.out.rc z (List.mem_of_getElem? hz)).tgt
      obtain ⟨q, hq, hlq, hqn⟩ := fixV_some hx
      have qn : q < n := by rw [← HL.out]; exact hqn
      have zb := World.block_lt_of_cell? wr _ c0
      have hkd : decide ((k : Int) < (t : Int)) = true := by simp; omega
      have k1 : (0 : Int) ≤ (k : Int) := by omega
      have F1 := Lib.hid (FD.out z wr NB.out)
      rw [hq] at F1
      obtain ⟨pb', po', e0, ha, hin⟩ := (LV.out wr NB.out).get hlq
      cases e0
      have p4 := ha.2.2.2.2
      have zb2 := ha.lt
      have q1 : (0 : Int) ≤ (q : Int) := by omega
      have q2 : (q : Int) < (n : Int) := by omega
      obtain ⟨m, hm⟩ : ∃ m, x.nx.length = m := ⟨_, rfl⟩
      rw [hm] at p4
      have HM := Lib.hid hm
      have m8 : m ≤ 8 := by rw [← hm]; exact (GG.out.fine (fnd_some hx).1).n8
      have SJ : Hid (SeenJ l id T k x 0) := ⟨SE.out, ⟨z, hz, hx⟩, fun i y hi => absurd hi (Nat.not_lt_zero _)⟩
      have NXW := Lib.hid (fun v (h : Below w.heap.size w v) => (LV.out v h).ints (fnd_some hx).1)
      have RWT : Hid (IRow wr b0 (.slice (some ⟨g, 0, none⟩) t cap) T) := RW.out
      clear hcell hz hx hq hlq hqn ha hin hm
      go_wp2_with fail
      refine F1.out.mono ?_
      rintro e w3 ⟨rfl, rfl⟩
      go_wp2_with fail
      clear c0 zb p4 zb2 F1
      go_loopw [5, 8] (fun sv i wq => ∃ (j : Nat) (T' : List Int), j ≤ m ∧ i = .int .i64 j ∧ SeenJ l id T' k x j ∧ IRow wq b0 sv T' ∧ Below w.heap.size w wq) (fun _ i _ => m - iv i)
      case atStart => exact ⟨0, T, Nat.zero_le _, rfl, SJ.out, RWT.out, NB.out⟩
      case round =>
        obtain ⟨j, T', hj, rfl, hS, hrow, hB⟩ := hrel
        have SJ' := Lib.hid hS; have NB' := Lib.hid hB; have RW' := Lib.hid hrow
        have TN' : T'.length ≤ n := by have := hS.se.len; have := HL.out; omega
        have bz : b0 ≤ wr.heap.size := row_base hrow (by intro e; have := hS.se.me; rw [e] at this; cases this)
        obtain ⟨pp, cap', hv, hI⟩ := hrow.open'
        subst hv
        clear hS hB hrow
        by_cases hjm : j < m
        · obtain ⟨y, hy⟩ : ∃ y, x.nx[j]? = some y := ⟨_, List.getElem?_eq_getElem (by rw [HM.out]; exact hjm)⟩
          obtain ⟨nb, no, hnp, hc⟩ := (NXW.out wr NB'.out).get hy
          have zb := World.block_lt_of_cell? wr _ hc
          have hkd2 : decide ((j : Int) < (m : Int)) = true := by simp; omega
          have HA := Lib.hid (has_any pp T' y cap' wr hI (by omega))
          have HY := Lib.hid hy
          obtain ⟨B, hB⟩ : ∃ B, decide (y ∈ T') = B := ⟨_, rfl⟩
          rw [hB] at HA
          have HB := Lib.hid hB
          clear hy hI hB
          rw [hnp]
          go_wp2_with fail
          refine HA.out.mono ?_
          rintro e w4 ⟨rfl, rfl⟩
          cases B with
          | true =>
            have SJ2 := Lib.hid (SJ'.out.keep HY.out (of_decide_eq_true HB.out))
            go_wp2_with fail
            go_roundw
            case rel => exact ⟨j + 1, T', by omega, by go_num, SJ2.out, RW'.out, NB'.out⟩
            case measure => simp only [iv]; omega
          | false =>
            have SJ2 := Lib.hid (SJ'.out.add GG.out HY.out (of_decide_eq_false HB.out))
            obtain ⟨i0, hi, hz0, hz1, hz2⟩ := info_parts info3
            go_wp2_with (at_builtin; refine wpList_append_own _ rfl _ _ 28 rfl b0 3 i0 (.int .i64 0) 1 8 Try.underlying28 hi hz0 hz1 hz2 rfl (by decide) _ _ _ rfl (World.ownsRow.alloc RW'.out _) ⟨wr.heap.size, 0, none⟩ 1 1 [.int .i64 y] rfl rfl (cell_one_new _ _ _) (by simp [Value.oneCell']) (by unfold maxLen; omega) (by omega) (by simp; omega) ?_; intro v' w5 hown5 hgrow5 _)
            have B5 : Hid (Below w.heap.size w w5) := (NB'.out.alloc NB'.out.size (.cells #[.int .i64 y] 3)).grown hgrow5 (by have := NB'.out.size; simp; omega) (fun r e => by have := (World.ownsRow.lt RW'.out r e).1; have := BL.out; omega)
            have R5 : Hid (IRow w5 b0 v' (T' ++ [y])) := by
              show World.ownsRow _ _ _ _ _ _ _
              rw [List.length_append, List.length_singleton, ← iw_snoc]
              exact hown5
            clear hown5 hgrow5
            go_wp2_with fail
            go_roundw
            case rel => exact ⟨j + 1, T' ++ [y], by omega, by go_num, SJ2.out, R5.out, B5.out⟩
            case measure => simp only [iv]; omega
        · obtain rfl : j = m := by omega
          have hkd2 : decide ((j : Int) < (j : Int)) = false := by simp
          have SE2 : Hid (Seen l id T' (k + 1)) := SeenJ.done (by rw [HM.out]; exact SJ'.out)
          go_wp2_with fail
          go_roundw
          case rel => exact ⟨k + 1, T', by go_num, SE2.out, RW'.out, NB'.out⟩
          case measure => simp only [iv]; omega
    · obtain rfl : k = t := by omega
      have hkd : decide ((k : Int) < (k : Int)) = false := by simp
      have AL : Hid (∀ z, z ∈ T ↔ Rc l id z) := Seen.all (by rw [HT.out]; exact SE.out)
      obtain ⟨wA, rfl⟩ : ∃ wA, wA = wr := ⟨_, rfl⟩
      have FIN : Hid (pick l T = RL) := by show _ = _; rw [pick_all AL.out]; exact HRL.out
      have IR : Hid (∀ v, Below wA.heap.size wA v → IntsAt v (some ⟨g, 0, none⟩) T) := fun v h => by
        refine IntsAt.next ?_ h
        exact .inr ⟨g, 0, rfl, fun i x hi => by rw [Nat.zero_add]; exact hcell i x hi⟩
      have R9 := Lib.hid (row_empty wA)
      have B9 : Hid (Below wA.heap.size wA (wA.alloc (.cells #[] 3))) := (Below.refl _ _).alloc (Nat.le_refl _) _
      obtain ⟨b9, hb9⟩ : ∃ b9, b9 = wA.heap.size := ⟨_, rfl⟩
      rw [← hb9] at R9
      have H9 := Lib.hid hb9
      clear hcell
      go_wp2_with fail
      rw [← hb9]
      clear hb9
      go_loopw [9, 10] (fun ov i wq => ∃ j : Nat, j ≤ n ∧ i = .int .i64 j ∧ IRow wq b9 ov (pick (l.take j) T) ∧ Below wA.heap.size wA wq) (fun _ i _ => n - iv i)
      case atStart => exact ⟨0, Nat.zero_le _, rfl, by rw [List.take_zero]; exact R9.out, B9.out⟩
      case round =>
        obtain ⟨j, hj, rfl, hrow, hB⟩ := hrel
        have NB' := Lib.hid hB; have RW' := Lib.hid hrow
        have NW : Hid (Below w.heap.size w wr) := NB.out.trans (hB.mono NB.out.size)
        clear hB hrow R9 B9
        by_cases hjn : j < n
        · obtain ⟨x, hx⟩ : ∃ x, l[j]? = some x := ⟨_, List.getElem?_eq_getElem (by rw [HL.out]; exact hjn)⟩
          obtain ⟨pb', po', e0, ha, _⟩ := (LV.out wr NW.out).get hx
          cases e0
          have q0 := ha.1
          have zb := ha.lt
          have hkd2 : decide ((j : Int) < (n : Int)) = true := by simp; omega
          have HA0 := has_any (some ⟨g, 0, none⟩) T x.id cap wr (IR.out wr NB'.out) (by rw [HT.out]; omega)
          obtain ⟨B, hB⟩ : ∃ B, decide (x.id ∈ T) = B := ⟨_, rfl⟩
          rw [HT.out, hB] at HA0
          have HA := Lib.hid HA0
          have TK : Hid (l.take (j + 1) = l.take j ++ [x]) := take_next hx
          have LE : (pick (l.take j) T).length ≤ 1000 := Nat.le_trans (pick_le _ _) (by rw [List.length_take]; omega)
          have HB := Lib.hid hB
          clear hx ha hB HA0
          go_wp2_with fail
          refine HA.out.mono ?_
          rintro e w4 ⟨rfl, rfl⟩
          cases B with
          | false =>
            have R2 : Hid (IRow wr b9 u9 (pick (l.take (j + 1)) T)) := by
              show IRow _ _ _ _
              rw [TK.out, pick_snoc, if_neg (of_decide_eq_false HB.out)]
              exact RW'.out
            go_wp2_with fail
            go_roundw
            case rel => exact ⟨j + 1, by omega, by go_num, R2.out, NB'.out⟩
            case measure => simp only [iv]; omega
          | true =>
            obtain ⟨i0, hi, hz0, hz1, hz2⟩ := info_parts info3
            have b9z : b9 ≤ wr.heap.size := by rw [H9.out]; exact NB'.out.size
            go_wp2_with (at_builtin; refine wpList_append_own _ rfl _ _ 28 rfl b9 3 i0 (.int .i64 0) 1 8 Try.underlying28 hi hz0 hz1 hz2 rfl (by decide) _ _ _ rfl (World.ownsRow.alloc RW'.out _) ⟨wr.heap.size, 0, none⟩ 1 1 [.int .i64 x.id] rfl rfl (cell_one_new _ _ _) (by simp [Value.oneCell']) (by unfold maxLen; omega) (by omega) (by simp; omega) ?_; intro v' w5 hown5 hgrow5 _)
            have B5 : Hid (Below wA.heap.size wA w5) := (NB'.out.alloc NB'.out.size (.cells #[.int .i64 x.id] 3)).grown hgrow5 (by have := NB'.out.size; simp; omega) (fun r e => by have := (World.ownsRow.lt RW'.out r e).1; have := H9.out; omega)
            have R5 : Hid (IRow w5 b9 v' (pick (l.take (j + 1)) T)) := by
              show World.ownsRow _ _ _ _ _ _ _
              rw [TK.out, pick_snoc, if_pos (of_decide_eq_true HB.out), List.length_append, List.length_singleton, ← iw_snoc]
              exact hown5
            clear hown5 hgrow5
            go_wp2_with fail
            go_roundw
            case rel => exact ⟨j + 1, by omega, by go_num, R5.out, B5.out⟩
            case measure => simp only [iv]; omega
        · obtain rfl : j = n := by omega
          have hkd2 : decide ((j : Int) < (j : Int)) = false := by simp
          have R2 : Hid (IRow wr w.heap.size u9 RL) := by
            show IRow _ _ _ _
            have := RW'.out
            rw [← HL.out, List.take_length, FIN.out] at this
            exact own_base this (by rw [H9.out]; exact NB.out.size)
          go_wp2_with fail
          go_ret
          exact ⟨_, rfl, R2.out, NW.out⟩

end Go.Proofs.Ytchaihdbljkphaa
