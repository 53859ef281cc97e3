/-
  versionOn and Class of package file. No statement of the seat is proved here.
-/
import Derived.Test.YtbjbioiggjhknaaGreatDoorFt
namespace Go.Proofs.YtbjbioiggjhknaaGreatDoor
open Go Go.RowKit

set_option maxHeartbeats 1000000 in
theorem on85_any (x : Pln) (b : Nat) (d : Int) (w : World) (h : w.cell? ⟨b, 0, none⟩ = some (.int .i64 d)) :
    Calls Tryz.prog 63 #[x.val, .pointer (some ⟨b, 0, none⟩)] w fun e w' => e = .returned (.bool (on d x)) ∧ Below w.heap.size w w' := by
  have z := World.block_lt_of_cell? w _ h
  unfold Pln.val
  go_enter Tryz.func63, Tryz.ntmps63
  go_wp2_with fail
  refine (spHas_any _ _ _ _).mono ?_
  rintro e w' ⟨rfl, hb⟩
  have B : Hid (Below w.heap.size w w') := ((Below.refl _ _).alloc (Nat.le_refl _) _).trans (hb.mono (by simp))
  clear hb
  go_wp2_with fail
  go_ret
  exact ⟨ret_bool (by unfold on; exact (Bool.decide_and _ _).symm), B.out⟩

set_option maxRecDepth 100000 in
set_option maxHeartbeats 4000000 in
theorem IP_85 (p : Option Addr) (n cap m : Nat) (l : List Pln) (b : Nat) (d : Int) (w : World) (hL : PlnsAt w p l) (h0 : w.cell? ⟨b, 0, none⟩ = some (.int .i64 d)) (hl : l.length = n) (hn : (n : Int) ≤ 1099511627776) (hm : m ≤ n) (hv : ∀ (i : Nat) x, i < m → l[i]? = some x → on d x = false) (A : Int) (hr : (m = n ∧ A = -1) ∨ (∃ x, l[m]? = some x ∧ on d x = true ∧ A = m)) :
    Calls Tryz.prog 26 #[.slice p n cap, .func (.func 63) #[] #[.pointer (some ⟨b, 0, none⟩)]] w fun e w' => e = .returned (.int .i64 A) ∧ Below w.heap.size w w' := by
  have HP := Lib.hid hL; have HV := Lib.hid hv; have HR := Lib.hid hr; have H0 := Lib.hid h0; have HL := Lib.hid hl
  clear hL hv hr h0 hl
  go_enter Tryz.func26, Tryz.ntmps26
  go_wp2
  go_loopw [8] (fun i wr => ∃ k : Nat, k ≤ m ∧ i = .int .i64 k ∧ Below w.heap.size w wr) (fun i _ => n - (intOf i).toNat)
  case atStart => exact ⟨0, Nat.zero_le _, rfl, by go_grown⟩
  case round =>
    obtain ⟨k, hk, rfl, hb⟩ := hrel
    have NB := Lib.hid hb
    by_cases hkn : k < n
    · obtain ⟨x, hx⟩ : ∃ x, l[k]? = some x := ⟨_, List.getElem?_eq_getElem (by rw [HL.out]; exact hkn)⟩
      obtain ⟨blk, off, rfl, hpc, hkc⟩ := HP.out.get hx
      have PW := Lib.hid (hpc.next hb)
      have C1 := Lib.hid (fun w1 (h : w1.cell? ⟨b, 0, none⟩ = some (.int .i64 d)) => on85_any x b d w1 h)
      have IW := Lib.hid (cell_next H0.out hb)
      have HX := Lib.hid hx
      have hkd : decide ((k : Int) < (n : Int)) = true := by simp; omega
      have q0 := PW.out.1; have q1 := PW.out.2.1; have q2 := PW.out.2.2.1; have q3 := PW.out.2.2.2.1; have q4 := PW.out.2.2.2.2
      have zb := PW.out.lt
      obtain ⟨P, hP⟩ : ∃ P, P = on d x := ⟨_, rfl⟩
      rw [← hP] at C1
      unfold Pln.val at C1
      have HQ := Lib.hid hP
      clear hb hpc hx hkc hP
      cases P with
      | true =>
        have hE : A = k := by
          rcases HR.out with h | ⟨y, h1, h2, h3⟩
          · exact absurd (HQ.out.trans (HV.out k x (by omega) HX.out)) (by simp)
          · rcases (show k < m ∨ k = m by omega) with g | g
            · exact absurd (HQ.out.trans (HV.out k x g HX.out)) (by simp)
            · subst g; exact h3
        subst hE
        go_wp2_with fail
        refine (C1.out _ IW.out).mono ?_
        rintro e w' ⟨rfl, hb⟩
        have MB : Hid (Below w.heap.size w w') := NB.out.trans (hb.mono NB.out.size)
        clear hb
        go_wp2
        go_ret
        exact ⟨rfl, MB.out⟩
      | false =>
        have hkm : k < m := by
          rcases HR.out with h | ⟨y, h1, h2, h3⟩
          · omega
          · rcases (show k < m ∨ k = m by omega) with g | g
            · exact g
            · subst g
              obtain rfl : y = x := Option.some.inj (h1.symm.trans HX.out)
              exact absurd (HQ.out.trans h2) (by simp)
        go_wp2_with fail
        refine (C1.out _ IW.out).mono ?_
        rintro e w' ⟨rfl, hb⟩
        have MB : Hid (Below w.heap.size w w') := NB.out.trans (hb.mono NB.out.size)
        clear hb
        go_wp2
        go_roundw
        case rel => exact ⟨k + 1, by omega, by go_num, MB.out⟩
        case measure => simp [intOf]; omega
    · have hkd : decide ((k : Int) < (n : Int)) = false := by simp; omega
      have hE : A = -1 := by
        rcases HR.out with h | ⟨y, h1, _⟩
        · exact h.2
        · have := (List.getElem?_eq_some_iff.1 h1).1
          rw [HL.out] at this
          omega
      subst hE
      go_wp2
      go_ret
      exact ⟨rfl, NB.out⟩

theorem Idx85_any (p : Option Addr) (n cap : Nat) (l : List Pln) (b : Nat) (d : Int) (w : World) (hL : PlnsAt w p l) (h0 : w.cell? ⟨b, 0, none⟩ = some (.int .i64 d)) (hl : l.length = n) (hn : (n : Int) ≤ 1099511627776) :
    Calls Tryz.prog 26 #[.slice p n cap, .func (.func 63) #[] #[.pointer (some ⟨b, 0, none⟩)]] w fun e w' => e = .returned (.int .i64 (idxV (l.findIdx? (on d)))) ∧ Below w.heap.size w w' := by
  rcases first_pl (on d) l with ⟨h1, h2⟩ | ⟨m, x, h1, h2, h3, h4⟩
  · rw [h2]
    exact IP_85 p n cap n l b d w hL h0 hl hn (Nat.le_refl _) (fun i x _ hx => h1 x (List.mem_of_getElem? hx)) _ (.inl ⟨rfl, rfl⟩)
  · rw [h4]
    exact IP_85 p n cap m l b d w hL h0 hl hn (by have := (List.getElem?_eq_some_iff.1 h1).1; omega) h3 _ (.inr ⟨x, h1, h2, rfl⟩)

/-- The number of the version in force on a day, or 0. -/
def vno (l : List Pln) (d : Int) : Int := idxV (l.findIdx? (on d)) + 1
theorem idx_lt (l : List Pln) (d : Int) : -1 ≤ idxV (l.findIdx? (on d)) ∧ idxV (l.findIdx? (on d)) < (l.length : Int) ∨ idxV (l.findIdx? (on d)) = -1 := by
  rcases first_pl (on d) l with ⟨_, h2⟩ | ⟨m, x, h1, _, _, h4⟩
  · rw [h2]; exact .inr rfl
  · rw [h4]
    have := (List.getElem?_eq_some_iff.1 h1).1
    refine .inl ⟨?_, ?_⟩ <;> (show _ ; simp only [idxV]; omega)

set_option maxHeartbeats 2000000 in
theorem versionOn_any (p : Option Addr) (n cap : Nat) (l : List Pln) (d : Int) (w : World) (hL : PlnsAt w p l) (hl : l.length = n) (hn : (n : Int) ≤ 1099511627776) :
    Calls Tryz.prog 43 #[.slice p n cap, .int .i64 d] w fun e w' => e = .returned (.int .i64 (vno l d)) ∧ Below w.heap.size w w' := by
  have B1 : Hid (Below w.heap.size w (w.alloc (.cells #[.int .i64 d] 3))) := (Below.refl _ _).alloc (Nat.le_refl _) _
  have X1 : (w.alloc (.cells #[.int .i64 d] 3)).cell? ⟨w.heap.size, 0, none⟩ = some (.int .i64 d) := World.cell?_alloc_new w _ 3 0
  have C := Lib.hid (Idx85_any p n cap l w.heap.size d _ (hL.next B1.out) X1 hl hn)
  have hi := idx_lt l d
  unfold vno
  obtain ⟨A, hA⟩ : ∃ A, A = idxV (l.findIdx? (on d)) := ⟨_, rfl⟩
  rw [← hA] at C hi ⊢
  have hw : IntKind.i64.wrap (1 + A) = A + 1 := by rw [Int.add_comm]; exact IntWalk.i64_in _ (by omega)
  clear hL hl hA hi X1
  go_enter Tryz.func43, Tryz.ntmps43
  go_wp2_with fail
  refine C.out.mono ?_
  rintro e w2 ⟨rfl, hb⟩
  have B2 : Hid (Below w.heap.size w w2) := B1.out.trans (hb.mono B1.out.size)
  clear hb
  go_wp2_with fail
  go_ret
  first | exact ⟨rfl, B2.out⟩ | exact ⟨ret_int (by omega), B2.out⟩

set_option maxRecDepth 100000 in
set_option maxHeartbeats 8000000 in
theorem Class_any (p : Option Addr) (n cap : Nat) (l : List Pln) (x : Fil) (d : Int) (w : World) (hE : Env w) (hL : PlnsAt w p l) (hl : l.length = n) (hc : n ≤ cap) (hnm : (n : Int) ≤ 1099511627776) (hF : ∀ y ∈ l, Fit y) (hs : x.c.size ≤ 1000000000000) (I E : Int) (h : ChkIs l I E)
    (R : ByteArray) (r : Int) (hr : FolIs l E (vno l x.op) (vno l d) x.c R r) :
    Calls Tryz.prog 19 #[.slice p n cap, x.val, .int .i64 d] w fun e w' => e = .returned (if r = 7 then .tuple #[.string ⟨#[]⟩, .int .i64 24] else .tuple #[.string R, .int .i64 r]) ∧ Below w.heap.size w w' := by
  obtain ⟨W1, hW1⟩ : ∃ W1, W1 = w.alloc (.cells x.cells 39) := ⟨_, rfl⟩
  have B1 : Hid (Below w.heap.size w W1) := by rw [hW1]; exact (Below.refl _ _).alloc (Nat.le_refl _) _
  obtain ⟨b, hb⟩ : ∃ b, b = w.heap.size := ⟨_, rfl⟩
  have X1 : FilAt W1 b 0 x := by rw [hW1, hb]; exact fil_new w x 39
  have C1 := Lib.hid (fun w1 (h1 : Below w.heap.size w w1) => versionOn_any p n cap l x.op w1 (hL.next h1) hl hnm)
  have C2 := Lib.hid (fun w1 (h1 : Below w.heap.size w w1) => versionOn_any p n cap l d w1 (hL.next h1) hl hnm)
  have C3 := Lib.hid (fun w1 (h1 : Below w.heap.size w w1) => Follow_any p n cap l (vno l x.op) (vno l d) x.c w1 (hE.below h1) (hL.next h1) hl hc hnm hF I E h hs R r hr)
  obtain ⟨v1, e1⟩ : ∃ v, v = vno l x.op := ⟨_, rfl⟩
  obtain ⟨v2, e2⟩ : ∃ v, v = vno l d := ⟨_, rfl⟩
  rw [← e1] at C1 C3
  rw [← e2] at C2 C3
  have HB := Lib.hid hb
  have HS : Hid (W1.cell? ⟨b, 2, none⟩ = some (.int .i64 x.op) ∧ W1.cell? ⟨b, 4, none⟩ = some (.string x.c)) := ⟨X1.c2, X1.c4⟩
  have s2 := HS.out.1; have s4 := HS.out.2
  unfold Fil.val Fil.cells
  unfold Fil.cells at hW1
  clear hE hL hl hc hnm hF hs h hr X1 e1 e2
  by_cases hr7 : r = 7
  · have d7 : (r == 7) = true := by simp [hr7]
    rw [if_pos hr7]
    clear hr7
    go_enter Tryz.func19, Tryz.ntmps19
    go_wp2_with fail
    rw [← hW1, ← hb]
    clear hW1 hb
    go_wp2_with fail
    go_region_held3 (fun v => v.cell? ⟨b, 2, none⟩ = some (.int .i64 x.op) ∧ v.cell? ⟨b, 4, none⟩ = some (.string x.c)) (first | exact HS.out | assumption)
      ((first
        | (go_at_call 12; refine (C3.out _ B6.out).mono ?_; rintro e w7 ⟨rfl, hb7⟩; have B7 := Lib.hid (B6.out.trans (hb7.mono B6.out.size)); have hs7 : w7.cell? ⟨b, 2, none⟩ = some (.int .i64 x.op) ∧ w7.cell? ⟨b, 4, none⟩ = some (.string x.c) := ⟨cell_next hs6.1 hb7, cell_next hs6.2 hb7⟩)
        | (go_at_call 43; refine (C2.out _ B5.out).mono ?_; rintro e w6 ⟨rfl, hb6⟩; have B6 := Lib.hid (B5.out.trans (hb6.mono B5.out.size)); have hs6 : w6.cell? ⟨b, 2, none⟩ = some (.int .i64 x.op) ∧ w6.cell? ⟨b, 4, none⟩ = some (.string x.c) := ⟨cell_next hs5.1 hb6, cell_next hs5.2 hb6⟩)
        | (go_at_call 43; refine (C1.out _ (below_drewN B1.out 1)).mono ?_; rintro e w5 ⟨rfl, hb5⟩; have B5 : Hid (Below w.heap.size w w5) := (below_drewN B1.out 1).trans (hb5.mono B1.out.size); have hs5 : w5.cell? ⟨b, 2, none⟩ = some (.int .i64 x.op) ∧ w5.cell? ⟨b, 4, none⟩ = some (.string x.c) := ⟨cell_next (w := W1.drew) HS.out.1 hb5, cell_next (w := W1.drew) HS.out.2 hb5⟩)))
    go_wp2_with fail
    go_ret2
    exact ⟨rfl, by first | exact B7.out | (rw [HB.out]; exact B7.out)⟩
  · have d7 : (r == 7) = false := by simp [hr7]
    rw [if_neg hr7]
    clear hr7
    go_enter Tryz.func19, Tryz.ntmps19
    go_wp2_with fail
    rw [← hW1, ← hb]
    clear hW1 hb
    go_wp2_with fail
    go_region_held3 (fun v => v.cell? ⟨b, 2, none⟩ = some (.int .i64 x.op) ∧ v.cell? ⟨b, 4, none⟩ = some (.string x.c)) (first | exact HS.out | assumption)
      ((first
        | (go_at_call 12; refine (C3.out _ B6.out).mono ?_; rintro e w7 ⟨rfl, hb7⟩; have B7 := Lib.hid (B6.out.trans (hb7.mono B6.out.size)); have hs7 : w7.cell? ⟨b, 2, none⟩ = some (.int .i64 x.op) ∧ w7.cell? ⟨b, 4, none⟩ = some (.string x.c) := ⟨cell_next hs6.1 hb7, cell_next hs6.2 hb7⟩)
        | (go_at_call 43; refine (C2.out _ B5.out).mono ?_; rintro e w6 ⟨rfl, hb6⟩; have B6 := Lib.hid (B5.out.trans (hb6.mono B5.out.size)); have hs6 : w6.cell? ⟨b, 2, none⟩ = some (.int .i64 x.op) ∧ w6.cell? ⟨b, 4, none⟩ = some (.string x.c) := ⟨cell_next hs5.1 hb6, cell_next hs5.2 hb6⟩)
        | (go_at_call 43; refine (C1.out _ (below_drewN B1.out 1)).mono ?_; rintro e w5 ⟨rfl, hb5⟩; have B5 : Hid (Below w.heap.size w w5) := (below_drewN B1.out 1).trans (hb5.mono B1.out.size); have hs5 : w5.cell? ⟨b, 2, none⟩ = some (.int .i64 x.op) ∧ w5.cell? ⟨b, 4, none⟩ = some (.string x.c) := ⟨cell_next (w := W1.drew) HS.out.1 hb5, cell_next (w := W1.drew) HS.out.2 hb5⟩)))
    go_wp2_with fail
    go_ret2
    exact ⟨rfl, by first | exact B7.out | (rw [HB.out]; exact B7.out)⟩

end Go.Proofs.YtbjbioiggjhknaaGreatDoor
