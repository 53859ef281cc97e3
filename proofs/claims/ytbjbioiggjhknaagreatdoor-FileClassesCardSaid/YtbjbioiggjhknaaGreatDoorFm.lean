/-
  slices.MaxFunc over notes; Known, Trigger, State. No statement of the seat is proved here.
-/
import Derived.Test.YtbjbioiggjhknaaGreatDoorFj
namespace Go.Proofs.YtbjbioiggjhknaaGreatDoor
open Go Go.RowKit

/-- A block that holds a note, and can be written. -/
def NtB (w : World) (b : Nat) (x : Nt) : Prop := NtAt w b 0 x ∧ ∀ i, i < 4 → w.frozen? ⟨b, i, none⟩ = false
theorem NtB.next {w w' : World} {b : Nat} {x : Nt} (h : NtB w b x) (hb : Below w.heap.size w w') : NtB w' b x :=
  ⟨h.1.next hb, fun i hi => (hb.frozen (p := ⟨b, i, none⟩) h.1.lt).trans (h.2 i hi)⟩
theorem NtB.new (w : World) (x : Nt) (t : TypeId) : NtB (w.alloc (.cells #[.string x.s, .int .i64 x.a, .int .i64 x.b, .int .i64 x.r] t)) w.heap.size x :=
  ⟨nt_new w x t, fun _ _ => World.frozen?_alloc_new _ _ _ _⟩
theorem put4 (w : World) (b : Nat) (v0 v1 v2 v3 : Value) (h : ∀ i : Nat, i < 4 → ∃ v, w.cell? ⟨b, i, none⟩ = some v) (hf : ∀ i, i < 4 → w.frozen? ⟨b, i, none⟩ = false) :
    let w' := (((w.setCell ⟨b, 0, none⟩ v0).setCell ⟨b, 1, none⟩ v1).setCell ⟨b, 2, none⟩ v2).setCell ⟨b, 3, none⟩ v3
    (w'.cell? ⟨b, 0, none⟩ = some v0 ∧ w'.cell? ⟨b, 1, none⟩ = some v1 ∧ w'.cell? ⟨b, 2, none⟩ = some v2 ∧ w'.cell? ⟨b, 3, none⟩ = some v3) ∧ ∀ i, i < 4 → w'.frozen? ⟨b, i, none⟩ = false := by
  have hH : HoldsN 4 w b (fun i => (w.cell? ⟨b, i, none⟩).getD undef) := by
    refine ⟨?_, fun i hi => ⟨?_, hf i hi⟩⟩
    · obtain ⟨v, hv⟩ := h 0 (by omega)
      exact World.block_lt_of_cell? w _ hv
    · obtain ⟨v, hv⟩ := h i hi
      show _ = some ((w.cell? ⟨b, i, none⟩).getD undef)
      rw [hv]
      rfl
  have k := (((hH.put 0 (by omega) v0).put 1 (by omega) v1).put 2 (by omega) v2).put 3 (by omega) v3
  exact ⟨⟨k.cell 0 (by omega), k.cell 1 (by omega), k.cell 2 (by omega), k.cell 3 (by omega)⟩, fun i hi => k.frozen i hi⟩
theorem NtB.put {w : World} {b : Nat} {x : Nt} (h : NtB w b x) (y : Nt) : NtB ((((w.setCell ⟨b, 0, none⟩ (.string y.s)).setCell ⟨b, 1, none⟩ (.int .i64 y.a)).setCell ⟨b, 2, none⟩ (.int .i64 y.b)).setCell ⟨b, 3, none⟩ (.int .i64 y.r)) b y := by
  have k := put4 w b (.string y.s) (.int .i64 y.a) (.int .i64 y.b) (.int .i64 y.r) (fun i hi => by
    rcases (show i = 0 ∨ i = 1 ∨ i = 2 ∨ i = 3 by omega) with e | e | e | e <;> subst e
    · exact ⟨_, h.1.1⟩
    · exact ⟨_, h.1.2.1⟩
    · exact ⟨_, h.1.2.2.1⟩
    · exact ⟨_, h.1.2.2.2⟩) h.2
  exact ⟨k.1, k.2⟩
theorem ntb_other {w : World} {b c : Nat} {x : Nt} (h : NtB w b x) (hc : c ≠ b) (v0 v1 v2 v3 : Value) : NtB ((((w.setCell ⟨c, 0, none⟩ v0).setCell ⟨c, 1, none⟩ v1).setCell ⟨c, 2, none⟩ v2).setCell ⟨c, 3, none⟩ v3) b x := by
  have one : ∀ {w : World} (o : Nat) (v : Value), NtB w b x → NtB (w.setCell ⟨c, o, none⟩ v) b x := fun o v h =>
    ⟨⟨(World.cell?_setCell_other _ _ _ _ (fun k => hc (congrArg Addr.block k))).trans h.1.1, (World.cell?_setCell_other _ _ _ _ (fun k => hc (congrArg Addr.block k))).trans h.1.2.1, (World.cell?_setCell_other _ _ _ _ (fun k => hc (congrArg Addr.block k))).trans h.1.2.2.1, (World.cell?_setCell_other _ _ _ _ (fun k => hc (congrArg Addr.block k))).trans h.1.2.2.2⟩, fun i hi => (World.frozen?_setCell _ _ _ _).trans (h.2 i hi)⟩
  exact one 3 v3 (one 2 v2 (one 1 v1 (one 0 v0 h)))
theorem mx_snoc : ∀ (t : List Nt) (m x : Nt), mx m (t ++ [x]) = if gt2 x (mx m t) then x else mx m t
  | [], _, _ => rfl
  | y :: t, m, x => by
    show mx (if gt2 y m then y else m) (t ++ [x]) = _
    rw [mx_snoc t]
    rfl
theorem below_put4 {B : Nat} {a w : World} (h : Below B a w) {b : Nat} (hb : B ≤ b) (v0 v1 v2 v3 : Value) : Below B a ((((w.setCell ⟨b, 0, none⟩ v0).setCell ⟨b, 1, none⟩ v1).setCell ⟨b, 2, none⟩ v2).setCell ⟨b, 3, none⟩ v3) :=
  (((h.setCell (p := ⟨b, 0, none⟩) hb _).setCell (p := ⟨b, 1, none⟩) hb _).setCell (p := ⟨b, 2, none⟩) hb _).setCell (p := ⟨b, 3, none⟩) hb _

set_option maxRecDepth 100000 in
set_option maxHeartbeats 8000000 in
theorem MaxFunc_any (p : Option Addr) (n cap : Nat) (x : Nt) (t : List Nt) (w : World) (hP : NtsAt w p (x :: t)) (hl : t.length + 1 = n) (hn : n ≤ 1000000000) :
    Calls Tryz.prog 60 #[.slice p n cap, .func (.func 61) #[] #[]] w fun e w' => e = .returned (mx x t).val ∧ Below w.heap.size w w' := by
  have HP := Lib.hid hP; have HL := Lib.hid hl
  obtain ⟨blk, off, rfl, hpx⟩ := hP.get (i := 0) (x := x) rfl
  have zb := hpx.lt
  have x0 := hpx.1; have x1 := hpx.2.1; have x2 := hpx.2.2.1; have x3 := hpx.2.2.2
  rw [Nat.zero_mul, Nat.add_zero] at x0 x1 x2 x3
  have h1 : (0 : Int) < (n : Int) := by omega
  have h2 : decide ((n : Int) < 1) = false := by simp; omega
  have h3 : 0 < n := by omega
  obtain ⟨R, hR⟩ : ∃ R, R = mx x t := ⟨_, rfl⟩
  have HR := Lib.hid hR
  rw [← hR]
  unfold Nt.val
  clear hP hl hpx hR
  go_enter Tryz.func60, Tryz.ntmps60
  go_wp2_with fail
  obtain ⟨c, hc⟩ : ∃ c, c = w.heap.size + 1 := ⟨_, rfl⟩
  rw [← hc]
  go_loopw [6] (fun i wr => ∃ k : Nat, 1 ≤ k ∧ k ≤ n ∧ i = .int .i64 k ∧ (∃ z, NtB wr w.heap.size z) ∧ NtB wr c (mx x (t.take (k - 1))) ∧ Below w.heap.size w wr) (fun i _ => n + 1 - (intOf i).toNat)
  case atStart =>
    refine ⟨1, Nat.le_refl _, by omega, rfl, ⟨⟨⟨#[]⟩, 0, 0, 0⟩, (NtB.new w ⟨⟨#[]⟩, 0, 0, 0⟩ 74).next ((Below.refl _ _).alloc (Nat.le_refl _) _)⟩, ?_, ((Below.refl _ _).alloc (Nat.le_refl _) _).alloc (by simp) _⟩
    rw [hc]
    have := NtB.new (w.alloc (.cells #[.string ⟨#[]⟩, .int .i64 0, .int .i64 0, .int .i64 0] 74)) x 74
    rw [World.size_alloc] at this
    exact this
  case round =>
    obtain ⟨k, hk1, hk, rfl, ⟨z, hz⟩, hm, hb⟩ := hrel
    have NB := Lib.hid hb; have NZ := Lib.hid hz
    obtain ⟨m, hme⟩ : ∃ m, m = mx x (t.take (k - 1)) := ⟨_, rfl⟩
    rw [← hme] at hm
    have NM := Lib.hid hm
    have HC := Lib.hid hc
    have HM := Lib.hid hme
    clear hb hz hm hme hc
    have m0 := NM.out.1.1; have m1 := NM.out.1.2.1; have m2 := NM.out.1.2.2.1; have m3 := NM.out.1.2.2.2
    by_cases hkn : k < n
    · obtain ⟨y, hy⟩ : ∃ y, t[k - 1]? = some y := ⟨_, List.getElem?_eq_getElem (by have := HL.out; omega)⟩
      have hy2 : (x :: t)[k]? = some y := by
        obtain ⟨k', rfl⟩ : ∃ k', k = k' + 1 := ⟨k - 1, by omega⟩
        simpa using hy
      obtain ⟨blk2, off2, he, hpy⟩ := HP.out.get hy2
      obtain ⟨rfl, rfl⟩ : blk = blk2 ∧ off = off2 := by simpa using he
      have PY := Lib.hid (hpy.next NB.out)
      have HT : Hid (mx x (t.take k) = if gt2 y m then y else m) := by
        show _ = _
        obtain ⟨g1, g2⟩ := List.getElem?_eq_some_iff.1 hy
        have := List.take_succ_eq_append_getElem (l := t) (i := k - 1) g1
        rw [show k - 1 + 1 = k by omega, g2] at this
        rw [this, mx_snoc, ← HM.out]
      have hkd : decide ((k : Int) < (n : Int)) = true := by simp; omega
      have hkz : (k : Int) < (n : Int) := by omega
      have zb2 : blk < wr.heap.size := Nat.lt_of_lt_of_le zb NB.out.size
      have zc : c < wr.heap.size := NM.out.1.lt
      have y0 := PY.out.1; have y1 := PY.out.2.1; have y2 := PY.out.2.2.1; have y3 := PY.out.2.2.2
      obtain ⟨E, hE⟩ : ∃ E, E = ends y m := ⟨_, rfl⟩
      have CE : Hid (∀ w1 : World, Calls Tryz.prog 61 #[y.val, m.val] w1 fun e w' => e = .returned (.int .i64 E) ∧ Below w1.heap.size w1 w') := fun w1 => by rw [hE]; exact ends_any y m w1
      have GE : Hid (decide (E > 0) = gt2 y m) := by
        show _ = _
        rw [hE]
        exact ends_pos y m
      have HS : Hid ((wr.cell? ⟨blk, off + k * 4, none⟩ = some (.string y.s) ∧ wr.cell? ⟨blk, off + k * 4 + 1, none⟩ = some (.int .i64 y.a) ∧ wr.cell? ⟨blk, off + k * 4 + 2, none⟩ = some (.int .i64 y.b) ∧ wr.cell? ⟨blk, off + k * 4 + 3, none⟩ = some (.int .i64 y.r)) ∧ (wr.cell? ⟨c, 0, none⟩ = some (.string m.s) ∧ wr.cell? ⟨c, 1, none⟩ = some (.int .i64 m.a) ∧ wr.cell? ⟨c, 2, none⟩ = some (.int .i64 m.b) ∧ wr.cell? ⟨c, 3, none⟩ = some (.int .i64 m.r))) := ⟨PY.out, NM.out.1⟩
      unfold Nt.val at CE
      clear hE hpy hy hy2 he
      cases hG : gt2 y m with
      | false =>
        have d : decide (E > 0) = false := GE.out.trans hG
        have HT2 : Hid (mx x (t.take k) = m) := by show _ = _; rw [HT.out, hG]; rfl
        clear hG
        go_wp2_with fail
        go_region_held3 (fun v => (v.cell? ⟨blk, off + k * 4, none⟩ = some (.string y.s) ∧ v.cell? ⟨blk, off + k * 4 + 1, none⟩ = some (.int .i64 y.a) ∧ v.cell? ⟨blk, off + k * 4 + 2, none⟩ = some (.int .i64 y.b) ∧ v.cell? ⟨blk, off + k * 4 + 3, none⟩ = some (.int .i64 y.r)) ∧ (v.cell? ⟨c, 0, none⟩ = some (.string m.s) ∧ v.cell? ⟨c, 1, none⟩ = some (.int .i64 m.a) ∧ v.cell? ⟨c, 2, none⟩ = some (.int .i64 m.b) ∧ v.cell? ⟨c, 3, none⟩ = some (.int .i64 m.r))) (first | exact HS.out | assumption)
          ((first
            | (go_at_call 61; refine (CE.out _).mono ?_; rintro e w2 ⟨rfl, hb2⟩; have B2 : Hid (Below wr.heap.size wr w2) := (below_drewN (Below.refl _ wr) 1).trans hb2; have hs2 : (w2.cell? ⟨blk, off + k * 4, none⟩ = some (.string y.s) ∧ w2.cell? ⟨blk, off + k * 4 + 1, none⟩ = some (.int .i64 y.a) ∧ w2.cell? ⟨blk, off + k * 4 + 2, none⟩ = some (.int .i64 y.b) ∧ w2.cell? ⟨blk, off + k * 4 + 3, none⟩ = some (.int .i64 y.r)) ∧ (w2.cell? ⟨c, 0, none⟩ = some (.string m.s) ∧ w2.cell? ⟨c, 1, none⟩ = some (.int .i64 m.a) ∧ w2.cell? ⟨c, 2, none⟩ = some (.int .i64 m.b) ∧ w2.cell? ⟨c, 3, none⟩ = some (.int .i64 m.r)) := ⟨PY.out.next B2.out, NM.out.1.next B2.out⟩)))
        clear hb2 hs2 m0 m1 m2 m3 y0 y1 y2 y3
        have B3 := Lib.hid (NB.out.trans (B2.out.mono NB.out.size))
        have NZ2 := Lib.hid (NZ.out.next B2.out)
        have NM2 := Lib.hid (NM.out.next B2.out)
        have PY2 := Lib.hid (PY.out.next B2.out)
        go_wp2_with fail
        go_roundw
        case rel => exact ⟨k + 1, by omega, by omega, by go_num, ⟨z, NZ2.out⟩, by rw [Nat.add_sub_cancel, HT2.out]; exact NM2.out, B3.out⟩
        case measure => simp [intOf]; omega
      | true =>
        have d : decide (E > 0) = true := GE.out.trans hG
        have HT2 : Hid (mx x (t.take k) = y) := by show _ = _; rw [HT.out, hG]; rfl
        clear hG
        go_wp2_with fail
        go_region_held3 (fun v => (v.cell? ⟨blk, off + k * 4, none⟩ = some (.string y.s) ∧ v.cell? ⟨blk, off + k * 4 + 1, none⟩ = some (.int .i64 y.a) ∧ v.cell? ⟨blk, off + k * 4 + 2, none⟩ = some (.int .i64 y.b) ∧ v.cell? ⟨blk, off + k * 4 + 3, none⟩ = some (.int .i64 y.r)) ∧ (v.cell? ⟨c, 0, none⟩ = some (.string m.s) ∧ v.cell? ⟨c, 1, none⟩ = some (.int .i64 m.a) ∧ v.cell? ⟨c, 2, none⟩ = some (.int .i64 m.b) ∧ v.cell? ⟨c, 3, none⟩ = some (.int .i64 m.r))) (first | exact HS.out | assumption)
          ((first
            | (go_at_call 61; refine (CE.out _).mono ?_; rintro e w2 ⟨rfl, hb2⟩; have B2 : Hid (Below wr.heap.size wr w2) := (below_drewN (Below.refl _ wr) 1).trans hb2; have hs2 : (w2.cell? ⟨blk, off + k * 4, none⟩ = some (.string y.s) ∧ w2.cell? ⟨blk, off + k * 4 + 1, none⟩ = some (.int .i64 y.a) ∧ w2.cell? ⟨blk, off + k * 4 + 2, none⟩ = some (.int .i64 y.b) ∧ w2.cell? ⟨blk, off + k * 4 + 3, none⟩ = some (.int .i64 y.r)) ∧ (w2.cell? ⟨c, 0, none⟩ = some (.string m.s) ∧ w2.cell? ⟨c, 1, none⟩ = some (.int .i64 m.a) ∧ w2.cell? ⟨c, 2, none⟩ = some (.int .i64 m.b) ∧ w2.cell? ⟨c, 3, none⟩ = some (.int .i64 m.r)) := ⟨PY.out.next B2.out, NM.out.1.next B2.out⟩)))
        clear hb2 hs2 m0 m1 m2 m3 y0 y1 y2 y3
        have B3 := Lib.hid (NB.out.trans (B2.out.mono NB.out.size))
        have NZ2 := Lib.hid (NZ.out.next B2.out)
        have NM2 := Lib.hid (NM.out.next B2.out)
        have PY2 := Lib.hid (PY.out.next B2.out)
        have y0 := PY2.out.1; have y1 := PY2.out.2.1; have y2 := PY2.out.2.2.1; have y3 := PY2.out.2.2.2
        have m0 := NM2.out.1.1; have m1 := NM2.out.1.2.1; have m2 := NM2.out.1.2.2.1; have m3 := NM2.out.1.2.2.2
        have f0 := NM2.out.2 0 (by omega); have f1 := NM2.out.2 1 (by omega); have f2 := NM2.out.2 2 (by omega); have f3 := NM2.out.2 3 (by omega)
        have zb3 := PY2.out.lt
        have NP := Lib.hid (NM2.out.put y)
        have hcw : w.heap.size ≤ c := by rw [HC.out]; omega
        have hcw2 : w.heap.size ≠ c := by rw [HC.out]; omega
        have BP := Lib.hid (below_put4 B3.out hcw (.string y.s) (.int .i64 y.a) (.int .i64 y.b) (.int .i64 y.r))
        have NZ3 : Hid (NtB ((((w2.setCell ⟨c, 0, none⟩ (.string y.s)).setCell ⟨c, 1, none⟩ (.int .i64 y.a)).setCell ⟨c, 2, none⟩ (.int .i64 y.b)).setCell ⟨c, 3, none⟩ (.int .i64 y.r)) w.heap.size z) := ntb_other NZ2.out (fun h => hcw2 h.symm) _ _ _ _
        clear hcw hcw2
        go_wp2_with fail
        go_roundw
        case rel => exact ⟨k + 1, by omega, by omega, by go_num, ⟨z, NZ3.out⟩, by rw [Nat.add_sub_cancel, HT2.out]; exact NP.out, BP.out⟩
        case measure => simp [intOf]; omega
    · have hkd : decide ((k : Int) < (n : Int)) = false := by simp; omega
      have hR : Hid (m = R) := by
        show m = R
        rw [HM.out, HR.out, List.take_of_length_le (by have := HL.out; omega)]
      have z0 := NZ.out.1.1; have z1 := NZ.out.1.2.1; have z2 := NZ.out.1.2.2.1; have z3 := NZ.out.1.2.2.2
      have f0 := NZ.out.2 0 (by omega); have f1 := NZ.out.2 1 (by omega); have f2 := NZ.out.2 2 (by omega); have f3 := NZ.out.2 3 (by omega)
      have BP := Lib.hid (below_put4 NB.out (Nat.le_refl _) (.string m.s) (.int .i64 m.a) (.int .i64 m.b) (.int .i64 m.r))
      have NP := Lib.hid (NZ.out.put m)
      have r0 := NP.out.1.1; have r1 := NP.out.1.2.1; have r2 := NP.out.1.2.2.1; have r3 := NP.out.1.2.2.2
      go_wp2_with fail
      refine bodyPost_ret (by simp [results, Tryz.results60, go_sem, r0, r1, r2, r3]; rfl) rfl ⟨?_, BP.out⟩
      rw [hR.out]

end Go.Proofs.YtbjbioiggjhknaaGreatDoor
