/-
  Duties of the reference. No statement of the seat is proved here.
-/
import Derived.Test.YtchaihdbljkphaaRr
namespace Go.Proofs.Ytchaihdbljkphaa
open Go Go.RowKit Go.Maps Go.Joins

theorem hrE_fnd {l : List Off} {d z : Int} {c : List Int} (h : hrE l d c = some z) : ∃ x, fnd l z = some x := by
  unfold hrE at h
  cases e : c.getLast? with
  | none => rw [e] at h; cases h
  | some y =>
    rw [e] at h
    simp only at h
    cases f : fnd l y with
    | none => rw [f] at h; cases h
    | some x =>
      rw [f] at h
      simp only at h
      split at h
      · obtain rfl := Option.some.inj h
        exact ⟨x, f⟩
      · cases h
theorem heirF_fnd {l : List Off} {d n z : Int} (h : heirF l d n = some z) : ∃ x, fnd l z = some x := by
  unfold heirF at h
  split at h
  · exact hrE_fnd h
  · cases h
/-- The offices of a list whose heir is an office. -/
noncomputable def dpk (l m : List Off) (id d : Int) : List Int := (m.map (·.id)).filter fun z => heirF l d z == some id
theorem dpk_snoc (l m : List Off) (x : Off) (id d : Int) : dpk l (m ++ [x]) id d = if (heirF l d x.id == some id) = true then dpk l m id d ++ [x.id] else dpk l m id d := by
  unfold dpk
  rw [List.map_append, List.filter_append]
  by_cases h : (heirF l d x.id == some id) = true
  · rw [if_pos h]; simp [h]
  · rw [if_neg h]
    have h : (heirF l d x.id == some id) = false := by simpa using h
    simp [h]
theorem dpk_all (l : List Off) (id d : Int) : dpk l l id d = dutL l id d := by
  unfold dpk dutL
  refine List.filter_congr fun z _ => ?_
  rw [Bool.eq_iff_iff, beq_iff_eq]
  simp
theorem dpk_le (l m : List Off) (id d : Int) : (dpk l m id d).length ≤ m.length := by
  unfold dpk
  exact Nat.le_trans (List.length_filter_le _ _) (by rw [List.length_map]; exact Nat.le_refl _)
theorem dutL_none {l : List Off} {id : Int} (h : fnd l id = none) (d : Int) : dutL l id d = [] := by
  unfold dutL
  rw [List.filter_eq_nil_iff]
  intro z _ hz
  simp only [decide_eq_true_eq] at hz
  obtain ⟨x, hx⟩ := heirF_fnd hz
  rw [h] at hx
  cases hx

set_option maxRecDepth 100000 in
set_option maxHeartbeats 8000000 in
theorem refDuties_any (p : Option Addr) (n c : Nat) (l : List Off) (id d : Int) (w : World) (hL : OffsAt w p l) (hl : l.length = n) (hn : n ≤ 1000) (hF : ∀ x ∈ l, FitO x) :
    Calls Try.prog 19 #[.slice p n c, .int .i64 id, .int .i64 d] w fun e w' => ∃ r, e = .returned r ∧ IRow w' w.heap.size r (dutL (gl l) id d) ∧ Below w.heap.size w w' := by
  have HL := Lib.hid hl
  have LV := Lib.hid (fun (v : World) (h : Below w.heap.size w v) => hL.next h)
  have FF := Lib.hid hF
  obtain ⟨I, E, hIE⟩ := ochk_ex l
  have CI := Lib.hid hIE
  have R0 := Lib.hid (row_empty w)
  have B0 : Hid (Below w.heap.size w (w.alloc (.cells #[] 3))) := (Below.refl _ _).alloc (Nat.le_refl _) _
  have GO := Lib.hid (fun v h => good_any p n c l v (LV.out v h) hl hn hF I E hIE)
  have FD := Lib.hid (fun z v h => refFind_any p n c l z v (LV.out v h) hl hn)
  have RH := Lib.hid (fun z v h => refHeir_any p n c l z d v (LV.out v h) hl hn hF)
  obtain ⟨RL, hRL⟩ : ∃ RL, dutL (gl l) id d = RL := ⟨_, rfl⟩
  rw [hRL]
  have HRL := Lib.hid hRL
  clear hL hl hF hIE hRL
  go_enter Try.func19, Try.ntmps19
  go_wp2_with fail
  refine (GO.out _ B0.out).mono ?_
  rintro e w1 ⟨rfl, hb⟩
  have N1 := Lib.hid (B0.out.trans (hb.mono B0.out.size))
  have R1 := Lib.hid (R0.out.next hb)
  clear hb GO R0 B0
  obtain ⟨z0, hz0⟩ : ∃ z0, z0 = w.heap.size := ⟨_, rfl⟩
  rw [show IRow w1 w.heap.size (.slice (some ⟨w.heap.size, 0, none⟩) 0 0) [] = IRow w1 w.heap.size (.slice (some ⟨z0, 0, none⟩) 0 0) [] by rw [hz0]] at R1
  rw [← hz0]
  clear hz0
  by_cases hz : E = 0
  case neg =>
    have dz : (E == 0) = false := by simp [hz]
    rw [dz]
    have T : Hid (RL = []) := by show _ = _; rw [← HRL.out, gl_no (CI.out.bad hz)]; exact dutL_none rfl d
    clear hz
    go_wp2_with fail
    go_ret
    exact ⟨_, rfl, by rw [T.out]; exact R1.out, N1.out⟩
  subst hz
  have dz : ((0 : Int) == 0) = true := rfl
  rw [dz]
  have GG := Lib.hid CI.out.good.1
  rw [gl_of GG.out] at HRL RH
  go_wp2_with fail
  refine (FD.out id _ N1.out).mono ?_
  rintro e w2 ⟨rfl, rfl⟩
  cases hf : fnd l id with
  | none =>
    rw [fixV_none hf]
    have T : Hid (RL = []) := by show _ = _; rw [← HRL.out]; exact dutL_none hf d
    clear hf
    go_wp2_with fail
    go_ret
    exact ⟨_, rfl, by rw [T.out]; exact R1.out, N1.out⟩
  | some x0 =>
  obtain ⟨k0, hk0, hlk0, hkn0⟩ := fixV_some hf
  rw [hk0]
  have dk : decide ((k0 : Int) < 0) = false := decide_eq_false (by omega)
  obtain ⟨pb, po, hpp, _⟩ := (LV.out w1 N1.out).get hlk0
  subst hpp
  clear hf hk0 hlk0 hkn0
  go_wp2_with fail
  go_loopw [7, 8] (fun ov i wq => ∃ j : Nat, j ≤ n ∧ i = .int .i64 j ∧ IRow wq w.heap.size ov (dpk l (l.take j) id d) ∧ Below w.heap.size w wq) (fun _ i _ => n - iv i)
  case atStart => exact ⟨0, Nat.zero_le _, rfl, by rw [List.take_zero]; exact R1.out, N1.out⟩
  case round =>
    obtain ⟨j, hj, rfl, hrow, hB⟩ := hrel
    have NB := Lib.hid hB; have RW := Lib.hid hrow
    clear hB hrow R1 N1
    by_cases hjn : j < n
    · obtain ⟨x, hx⟩ : ∃ x, l[j]? = some x := ⟨_, List.getElem?_eq_getElem (by rw [HL.out]; exact hjn)⟩
      obtain ⟨pb', po', e0, ha, _⟩ := (LV.out wr NB.out).get hx
      cases e0
      have q0 := ha.1
      have zb := ha.lt
      have hkd2 : decide ((j : Int) < (n : Int)) = true := by simp; omega
      have TK : Hid (l.take (j + 1) = l.take j ++ [x]) := take_next hx
      have LE : (dpk l (l.take j) id d).length ≤ 1000 := Nat.le_trans (dpk_le _ _ _ _) (by rw [List.length_take]; omega)
      have HX := Lib.hid hx
      clear hx ha
      cases hh : heirF l d x.id with
      | none =>
        have H2 : Hid (Calls Try.prog 12 #[.slice (some ⟨pb, po, none⟩) n c, .int .i64 x.id, .int .i64 d] wr fun e w' => e = .returned (.tuple #[.int .i64 0, .bool false]) ∧ Below wr.heap.size wr w') := by
          have := RH.out x.id wr NB.out
          rw [hh] at this
          exact this
        have R2 : Hid (IRow wr w.heap.size u7 (dpk l (l.take (j + 1)) id d)) := by
          show IRow _ _ _ _
          rw [TK.out, dpk_snoc, hh, if_neg (by simp)]
          exact RW.out
        clear hh
        go_wp2_with fail
        refine H2.out.mono ?_
        rintro e w4 ⟨rfl, hb⟩
        have R4 := Lib.hid (R2.out.next hb)
        have N4 := Lib.hid (NB.out.trans (hb.mono NB.out.size))
        clear hb H2 q0 zb
        go_wp2_with fail
        go_roundw
        case rel => exact ⟨j + 1, by omega, by go_num, R4.out, N4.out⟩
        case measure => simp only [iv]; omega
      | some h =>
        have H2 : Hid (Calls Try.prog 12 #[.slice (some ⟨pb, po, none⟩) n c, .int .i64 x.id, .int .i64 d] wr fun e w' => e = .returned (.tuple #[.int .i64 h, .bool true]) ∧ Below wr.heap.size wr w') := by
          have := RH.out x.id wr NB.out
          rw [hh] at this
          exact this
        by_cases hid : h = id
        · have d1 : (h == id) = true := by rw [hid]; simp
          have SN : Hid (dpk l (l.take (j + 1)) id d = dpk l (l.take j) id d ++ [x.id]) := by
            show _ = _
            rw [TK.out, dpk_snoc, hh, hid, if_pos (by simp)]
          clear hh hid
          go_wp2_with fail
          refine H2.out.mono ?_
          rintro e w4 ⟨rfl, hb⟩
          have R4 := Lib.hid (RW.out.next hb)
          have N4 := Lib.hid (NB.out.trans (hb.mono NB.out.size))
          clear hb H2 q0 zb
          obtain ⟨pb', po', e0, ha, _⟩ := (LV.out w4 N4.out).get HX.out
          cases e0
          have q0 := ha.1
          have zb := ha.lt
          obtain ⟨i0, hi, hz0, hz1, hz2⟩ := info_parts info3
          clear ha
          go_wp2_with (at_builtin; refine wpList_append_own _ rfl _ _ 28 rfl w.heap.size 3 i0 (.int .i64 0) 1 8 Try.underlying28 hi hz0 hz1 hz2 rfl (by decide) _ _ _ rfl (World.ownsRow.alloc R4.out _) ⟨w4.heap.size, 0, none⟩ 1 1 [.int .i64 x.id] rfl rfl (cell_one_new _ _ _) (by simp [Value.oneCell']) (by unfold maxLen; omega) (by omega) (by have := N4.out.size; simp; omega) ?_; intro v' w5 hown5 hgrow5 _)
          have B5 : Hid (Below w.heap.size w w5) := (N4.out.alloc N4.out.size (.cells #[.int .i64 x.id] 3)).grown hgrow5 (by have := N4.out.size; simp; omega) (fun r e => (World.ownsRow.lt R4.out r e).1)
          have R5 : Hid (IRow w5 w.heap.size v' (dpk l (l.take (j + 1)) id d)) := by
            show World.ownsRow _ _ _ _ _ _ _
            rw [SN.out, List.length_append, List.length_singleton, ← iw_snoc]
            exact hown5
          clear hown5 hgrow5
          go_wp2_with fail
          go_roundw
          case rel => exact ⟨j + 1, by omega, by go_num, R5.out, B5.out⟩
          case measure => simp only [iv]; omega
        · have d1 : (h == id) = false := by simp [hid]
          have R2 : Hid (IRow wr w.heap.size u7 (dpk l (l.take (j + 1)) id d)) := by
            show IRow _ _ _ _
            rw [TK.out, dpk_snoc, hh, if_neg (by simpa using hid)]
            exact RW.out
          clear hh hid
          go_wp2_with fail
          refine H2.out.mono ?_
          rintro e w4 ⟨rfl, hb⟩
          have R4 := Lib.hid (R2.out.next hb)
          have N4 := Lib.hid (NB.out.trans (hb.mono NB.out.size))
          clear hb H2 q0 zb
          go_wp2_with fail
          go_roundw
          case rel => exact ⟨j + 1, by omega, by go_num, R4.out, N4.out⟩
          case measure => simp only [iv]; omega
    · obtain rfl : j = n := by omega
      have hkd2 : decide ((j : Int) < (j : Int)) = false := by simp
      have R2 : Hid (IRow wr w.heap.size u7 RL) := by
        show IRow _ _ _ _
        have := RW.out
        rw [← HL.out, List.take_length, dpk_all, HRL.out] at this
        exact this
      go_wp2_with fail
      go_ret
      exact ⟨_, rfl, R2.out, NB.out⟩

end Go.Proofs.Ytchaihdbljkphaa
