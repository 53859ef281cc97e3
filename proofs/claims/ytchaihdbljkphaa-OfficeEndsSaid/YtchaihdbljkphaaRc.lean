/-
  Chain and Heir of the reference. No statement of the seat is proved here.
-/
import Derived.Test.YtchaihdbljkphaaRg
namespace Go.Proofs.Ytchaihdbljkphaa
open Go Go.RowKit Go.Maps Go.Joins

theorem row_empty (w : World) : IRow (w.alloc (.cells #[] 3)) w.heap.size (.slice (some ⟨w.heap.size, 0, none⟩) 0 0) [] := by
  refine ⟨rfl, .inr ⟨w.heap.size, 0, #[], rfl, Nat.le_refl _, ?_, Nat.le_refl _, by unfold maxLen; omega, rfl, rfl⟩⟩
  exact show (w.heap.push _)[w.heap.size]? = _ by simp
theorem chl_good {l : List Off} {I E d id : Int} {c : List Int} (h : OChk l I E) (hc : ChL (gl l) d id c) : (E ≠ 0 ∧ c = []) ∨ (E = 0 ∧ GoodO l ∧ ChL l d id c) := by
  by_cases hz : E = 0
  · subst hz
    have G := h.good.1
    rw [gl_of G] at hc
    exact .inr ⟨rfl, G, hc⟩
  · refine .inl ⟨hz, ?_⟩
    rw [gl_no (h.bad hz)] at hc
    rcases hc with ⟨_, h⟩ | h
    · exact h
    · obtain ⟨x, hx⟩ := h.hasx
      cases hx

set_option maxRecDepth 100000 in
set_option maxHeartbeats 8000000 in
theorem refChain_any (p : Option Addr) (n c : Nat) (l : List Off) (id d : Int) (w : World) (hL : OffsAt w p l) (hl : l.length = n) (hn : n ≤ 1000) (hF : ∀ x ∈ l, FitO x) (ch : List Int) (hch : ChL (gl l) d id ch) (hc2 : ch.length ≤ 32) :
    Calls Try.prog 15 #[.slice p n c, .int .i64 id, .int .i64 d] w fun e w' => ∃ r, e = .returned r ∧ IRow w' w.heap.size r ch ∧ Below w.heap.size w w' := by
  have HL := Lib.hid hl
  have LV := Lib.hid (fun (v : World) (h : Below w.heap.size w v) => hL.next h)
  have FF := Lib.hid hF
  obtain ⟨I, E, hIE⟩ := ochk_ex l
  have C2 := Lib.hid hc2
  have CG := Lib.hid (chl_good hIE hch)
  have R0 := Lib.hid (row_empty w)
  have B0 : Hid (Below w.heap.size w (w.alloc (.cells #[] 3))) := (Below.refl _ _).alloc (Nat.le_refl _) _
  have GO := Lib.hid (fun v h => good_any p n c l v (LV.out v h) hl hn hF I E hIE)
  have FD := Lib.hid (fun z v h => refFind_any p n c l z v (LV.out v h) hl hn)
  clear hL hl hF hIE hch hc2
  go_enter Try.func15, Try.ntmps15
  go_wp2_with fail
  refine (FD.out id _ B0.out).mono ?_
  rintro e w1 ⟨rfl, rfl⟩
  obtain ⟨w1, hw1⟩ : ∃ w1, w1 = w.alloc (.cells #[] 3) := ⟨_, rfl⟩
  rw [← hw1] at R0 B0 ⊢
  clear hw1
  obtain ⟨z0, hz0⟩ : ∃ z0, z0 = w.heap.size := ⟨_, rfl⟩
  have HZ0 := Lib.hid hz0
  rw [← hz0]
  rw [show IRow w1 w.heap.size (.slice (some ⟨w.heap.size, 0, none⟩) 0 0) [] = IRow w1 w.heap.size (.slice (some ⟨z0, 0, none⟩) 0 0) [] by rw [hz0]] at R0
  clear hz0
  go_wp2_with fail
  refine (GO.out _ B0.out).mono ?_
  rintro e w2 ⟨rfl, hb⟩
  have R2 := Lib.hid (R0.out.next hb)
  have B2 := Lib.hid (B0.out.trans (hb.mono B0.out.size))
  clear hb
  rcases CG.out with ⟨hz, h0⟩ | ⟨hz, hG, hc⟩
  · have dz : (E == 0) = false := by simp [hz]
    rw [dz]
    subst h0
    clear hz
    go_wp2_with fail
    go_ret
    exact ⟨_, rfl, R2.out, B2.out⟩
  subst hz
  have dz : ((0 : Int) == 0) = true := rfl
  rw [dz]
  have GG := Lib.hid hG
  rcases hc with ⟨hf, h0⟩ | hc
  · rw [fixV_none hf]
    subst h0
    clear hf hG
    go_wp2_with fail
    go_ret
    exact ⟨_, rfl, R2.out, B2.out⟩
  obtain ⟨x0, hx0⟩ := hc.hasx
  obtain ⟨k0, hk0, hlk0, hkn0⟩ := fixV_some hx0
  rw [hk0]
  have kn0 : k0 < n := by rw [← HL.out]; exact hkn0
  have dk : decide ((k0 : Int) < 0) = false := decide_eq_false (by omega)
  obtain ⟨pb, po, hpp, _⟩ := (LV.out w2 B2.out).get hlk0
  subst hpp
  have CC := Lib.hid hc
  have HX0 := Lib.hid hx0; have HK0 := Lib.hid hlk0
  clear hc hx0 hk0 hlk0 hkn0 hG
  go_wp2_with fail
  go_loopw [7, 8] (fun ids i wr => ∃ (k q : Nat) (z : Int) (x : Off), ch[k]? = some z ∧ fnd l z = some x ∧ l[q]? = some x ∧ q < n ∧ i = .int .i64 q ∧ IRow wr w.heap.size ids (ch.take k) ∧ Below w.heap.size w wr) (fun ids _ _ => ch.length - lenV ids)
  case atStart =>
    obtain ⟨t, ht⟩ := CC.out.ne
    exact ⟨0, k0, id, x0, by rw [ht]; rfl, HX0.out, HK0.out, kn0, rfl, by rw [List.take_zero]; exact R2.out, B2.out⟩
  case round =>
    obtain ⟨k, q, z, x, hz, hx, hq, hqn, rfl, hrow, hB⟩ := hrel
    obtain ⟨x', hx', hcase⟩ := CC.out.at k z hz
    obtain rfl := Option.some.inj (hx.symm.trans hx')
    have hk : k < ch.length := (List.getElem?_eq_some_iff.1 hz).1
    have hzx := (fnd_some hx).2
    have TK : Hid (ch.take (k + 1) = ch.take k ++ [x.id]) := by
      show _ = _
      rw [take_next hz, hzx]
    have LK : (ch.take k).length = k := by rw [List.length_take]; omega
    have RW : Hid (wr.ownsRow w.heap.size 3 1 u7 k (iw (ch.take k))) := by
      show World.ownsRow _ _ _ _ _ _ _
      have := hrow
      unfold IRow at this
      rw [LK] at this
      exact this
    have LEN : Hid (lenV u7 = k) := by
      show _ = _
      rcases ownsRow_forms RW.out with ⟨h, h2⟩ | ⟨g, cap, h⟩
      · rw [h, h2]; rfl
      · rw [h]; rfl
    have NB := Lib.hid hB
    have HK := Lib.hid hk
    have CS := Lib.hid hcase
    have HQ := Lib.hid hq
    obtain ⟨pb', po', e0, ha, _⟩ := (LV.out wr hB).get hq
    cases e0
    have q0 := ha.1
    have zb := ha.lt
    have k1 : (0 : Int) ≤ (q : Int) := by omega
    have k2 : (q : Int) < (n : Int) := by omega
    obtain ⟨i0, hi, hz0, hz1, hz2⟩ := info_parts info3
    have kk : k ≤ 32 := by have := C2.out; omega
    clear hrow hB hx hx' hcase hz hzx hk LK ha hq
    go_wp2_with (at_builtin; refine wpList_append_own _ rfl _ _ 28 rfl w.heap.size 3 i0 (.int .i64 0) 1 8 Try.underlying28 hi hz0 hz1 hz2 rfl (by decide) _ _ _ rfl (RW.out.alloc _) ⟨wr.heap.size, 0, none⟩ 1 1 [.int .i64 x.id] rfl rfl (cell_one_new _ _ _) (by simp [Value.oneCell']) (by unfold maxLen; omega) (by omega) (by have := NB.out.size; simp; omega) ?_; intro v' w3 hown3 hgrow3 _; have B3 : Hid (Below w.heap.size w w3) := ((NB.out.alloc NB.out.size (.cells #[.int .i64 x.id] 3)).grown hgrow3 (by have := NB.out.size; simp; omega) (fun j e => (RW.out.lt j e).1)); obtain ⟨pb', po', e0, ha, hin⟩ := (LV.out w3 B3.out).get HQ.out; cases e0; have p2 := ha.2.2.1; have p3 := ha.2.2.2.1; have p4 := ha.2.2.2.2; have zb3 := ha.lt)
    obtain ⟨g', cap', hv'⟩ := ownsRow_succ hown3
    have R3 : Hid (IRow w3 w.heap.size v' (ch.take (k + 1))) := by
      show World.ownsRow _ _ _ _ _ _ _
      rw [TK.out, List.length_append, List.length_singleton, List.length_take, Nat.min_eq_left (by have := HK.out; omega), ← iw_snoc]
      exact hown3
    have LEN3 : Hid (lenV v' = k + 1) := by show _ = _; rw [hv']; rfl
    have IN3 := Lib.hid hin
    clear hown3 hgrow3 hv' q0 zb p2 p3 p4 zb3 ha hin
    refine (In_any _ _ _ _).mono ?_
    rintro e w4 ⟨rfl, hb⟩
    rw [has_in]
    have B4 := Lib.hid (B3.out.trans (hb.mono B3.out.size))
    have R4 := Lib.hid (R3.out.next hb)
    clear hb
    obtain ⟨pb', po', e0, ha, hin⟩ := (LV.out w4 B4.out).get HQ.out
    cases e0
    have p4 := ha.2.2.2.2
    have zb4 := ha.lt
    obtain ⟨m, hm⟩ : ∃ m, x.nx.length = m := ⟨_, rfl⟩
    rw [hm] at p4
    have HMM := Lib.hid hm
    obtain ⟨B, hB⟩ : ∃ B, inD x d = B := ⟨_, rfl⟩
    rw [hB]
    have HB := Lib.hid hB
    clear hB hm ha
    rcases CS.out with ⟨ce, cb⟩ | ⟨ce, cb, mm, t, cn, cm⟩
    · have FIN : Hid (ch.take (k + 1) = ch) := by show _ = _; rw [ce, List.take_length]
      have R5 : Hid (IRow w4 w.heap.size v' ch) := by
        show IRow _ _ _ _
        have := R4.out
        rw [FIN.out] at this
        exact this
      cases B with
      | true =>
        clear cb ce
        go_wp2_with fail
        go_ret
        exact ⟨_, rfl, R5.out, B4.out⟩
      | false =>
        have hn0 : m = 0 := by
          rcases cb with h | h
          · rw [HB.out] at h; cases h
          · rw [← HMM.out, h]; rfl
        subst hn0
        have d0 : (((0 : Nat) : Int) == 0) = true := rfl
        clear cb ce
        go_wp2_with fail
        go_ret
        exact ⟨_, rfl, R5.out, B4.out⟩
    · have hBf : B = false := by rw [← HB.out]; exact cb
      subst hBf
      have npos : 0 < m := by rw [← HMM.out, cn]; simp
      have d0 : ((m : Int) == 0) = false := by simp; omega
      have d1 : decide ((0 : Int) < (m : Int)) = true := by simp; omega
      obtain ⟨nb, no, hnp, ha⟩ := hin.get (i := 0) (x := mm) (by rw [cn]; rfl)
      rw [Nat.add_zero] at ha
      have zb5 := World.block_lt_of_cell? w4 _ ha
      obtain ⟨y, hy, _⟩ := CC.out.at (k + 1) mm cm
      obtain ⟨g, hg, hlg, hgn⟩ := fixV_some hy
      have gn : g < n := by rw [← HL.out]; exact hgn
      have HY := Lib.hid hy; have HG := Lib.hid hlg; have CM := Lib.hid cm
      have F2 := Lib.hid (FD.out mm w4 B4.out)
      rw [hg] at F2
      rw [hnp] at p4
      clear cn cm ce cb hy hnp hg hlg hgn hin
      go_wp2_with fail
      refine F2.out.mono ?_
      rintro e w5 ⟨rfl, rfl⟩
      go_wp2_with fail
      exact ⟨⟨k + 1, g, mm, y, CM.out, HY.out, HG.out, gn, rfl, R4.out, B4.out⟩, by rw [LEN.out, LEN3.out]; have := HK.out; omega⟩

end Go.Proofs.Ytchaihdbljkphaa
