/-
  The reference's Check, Good, Index, At of plans. No statement of the seat is proved here.
-/
import Derived.Test.YtbjbioiggjhknaaGreatDoorRfa
import Derived.Test.YtbjbioiggjhknaaGreatDoorCk
import Derived.Test.YtbjbioiggjhknaaGreatDoorFl
namespace Go.Proofs.YtbjbioiggjhknaaGreatDoor
open Go Go.RowKit


theorem FaultR_any (p : Option Addr) (n cap i : Nat) (x : Pln) (l : List Pln) (w : World) (hE : Env w) (hL : PlnsAt w p l) (hl : l.length = n) (hn : n ≤ 1000000000) (hx : l[i]? = some x) (hS : ∀ y ∈ l, Sml y) :
    Calls Tryz.prog 25 #[.slice p n cap, .int .i64 i] w fun e w' => e = .returned (.int .i64 (atE l i)) ∧ Below w.heap.size w w' := by
  have e : atE l i = vrsE (if i = 0 then none else l[i - 1]?) i x := by unfold atE; rw [hx]
  rw [e]
  by_cases h0 : i = 0
  · subst h0
    rw [if_pos rfl]
    exact FaultR_first p n cap x l w hE hL hl hn hx hS
  · rw [if_neg h0]
    have hlt : i < l.length := (List.getElem?_eq_some_iff.1 hx).1
    obtain ⟨o, ho⟩ : ∃ o, l[i - 1]? = some o := ⟨_, List.getElem?_eq_getElem (by omega)⟩
    rw [ho]
    exact FaultR_later p n cap i o x l w hE hL hl hn (by omega) ho hx hS

set_option maxRecDepth 100000 in
set_option maxHeartbeats 8000000 in
theorem CheckR_loop (p : Option Addr) (n cap m : Nat) (l : List Pln) (w : World) (hE : Env w) (hL : PlnsAt w p l) (hl : l.length = n) (hn : n ≤ 16) (hS : ∀ y ∈ l, Sml y) (hm : m ≤ n) (hv : ∀ i, i < m → atE l i = 0) (I E : Int)
    (hr : (m = n ∧ I = -1 ∧ E = 0) ∨ (m < n ∧ atE l m = E ∧ E ≠ 0 ∧ I = m)) :
    Calls Tryz.prog 9 #[.slice p n cap] w fun e w' => e = .returned (.tuple #[.int .i64 I, .int .i64 E]) ∧ Below w.heap.size w w' := by
  have L0 := Lib.hid hL; have HV := Lib.hid hv; have HR := Lib.hid hr; have E0 := Lib.hid hE; have HL := Lib.hid hl; have HS := Lib.hid hS
  have hbig : decide ((n : Int) > 16) = false := by simp; omega
  clear hL hv hr hE hl hS
  go_enter Tryz.func9, Tryz.ntmps9
  go_wp2_with fail
  go_loopw [4] (fun i wr => ∃ k : Nat, k ≤ m ∧ i = .int .i64 k ∧ Below w.heap.size w wr) (fun i _ => n - (intOf i).toNat)
  case atStart => exact ⟨0, Nat.zero_le _, rfl, Below.refl _ _⟩
  case round =>
    obtain ⟨k, hk, rfl, hb⟩ := hrel
    have NB := Lib.hid hb
    by_cases hkn : k < n
    · obtain ⟨x, hx⟩ : ∃ x, l[k]? = some x := ⟨_, List.getElem?_eq_getElem (by rw [HL.out]; omega)⟩
      have C1 := Lib.hid (FaultR_any p n cap k x l wr (E0.out.below hb) (L0.out.next hb) HL.out (by omega) hx HS.out)
      have hkd : decide ((k : Int) < (n : Int)) = true := by simp; omega
      obtain ⟨A, hA⟩ : ∃ A, A = atE l k := ⟨_, rfl⟩
      rw [← hA] at C1
      have HA := Lib.hid hA
      clear hb hx hA
      go_wp2_with fail
      refine C1.out.mono ?_
      rintro e w2 ⟨rfl, hb2⟩
      have B2 := Lib.hid (NB.out.trans (hb2.mono NB.out.size))
      clear hb2 C1
      by_cases hA0 : A = 0
      · have d : (A != 0) = false := by simp [hA0]
        have hkm : k < m := by
          rcases HR.out with h | ⟨h1, h2, h3, h4⟩
          · omega
          · rcases (show k < m ∨ k = m by omega) with g | g
            · exact g
            · subst g
              exact absurd (h2.symm.trans (HA.out.symm.trans hA0)) h3
        clear hA0
        go_wp2_with fail
        go_roundw
        case rel => exact ⟨k + 1, by omega, by go_num, B2.out⟩
        case measure => simp [intOf]; omega
      · have d : (A != 0) = true := by simp [hA0]
        have hR : Hid (I = k ∧ E = A) := by
          show I = k ∧ E = A
          rcases HR.out with ⟨h1, h2, h3⟩ | ⟨h1, h2, h3, h4⟩
          · exact absurd (HA.out.trans (HV.out k (by omega))) hA0
          · rcases (show k < m ∨ k = m by omega) with g | g
            · exact absurd (HA.out.trans (HV.out k g)) hA0
            · subst g
              exact ⟨h4, (HA.out.trans h2).symm⟩
        clear hA0
        go_wp2_with fail
        go_ret2
        exact ⟨ret_ii hR.out.1.symm hR.out.2.symm, B2.out⟩
    · have hkd : decide ((k : Int) < (n : Int)) = false := by simp; omega
      have hR : Hid (I = -1 ∧ E = 0) := by
        show I = -1 ∧ E = 0
        rcases HR.out with ⟨h1, h2, h3⟩ | ⟨h1, h2, h3, h4⟩
        · exact ⟨h2, h3⟩
        · omega
      clear hb
      go_wp2_with fail
      go_ret2
      exact ⟨ret_ii hR.out.1.symm hR.out.2.symm, NB.out⟩

set_option maxHeartbeats 2000000 in
theorem CheckR_long (p : Option Addr) (n cap : Nat) (w : World) (h : 16 < n) :
    Calls Tryz.prog 9 #[.slice p n cap] w fun e w' => e = .returned (.tuple #[.int .i64 (-1), .int .i64 8]) ∧ Below w.heap.size w w' := by
  have hbig : decide ((n : Int) > 16) = true := by simp; omega
  clear h
  go_enter Tryz.func9, Tryz.ntmps9
  go_wp2_with fail
  go_ret2
  exact ⟨rfl, Below.refl _ _⟩

theorem CheckR_any (p : Option Addr) (n cap : Nat) (l : List Pln) (w : World) (hE : Env w) (hL : PlnsAt w p l) (hl : l.length = n) (hS : ∀ y ∈ l, Sml y) (I E : Int) (h : ChkIs l I E) :
    Calls Tryz.prog 9 #[.slice p n cap] w fun e w' => e = .returned (.tuple #[.int .i64 I, .int .i64 E]) ∧ Below w.heap.size w w' := by
  rcases h with ⟨h1, rfl, rfl⟩ | ⟨h1, h2, rfl, rfl⟩ | ⟨i, h1, h2, h3, h4, h5, rfl⟩
  · exact CheckR_long p n cap w (by omega)
  · exact CheckR_loop p n cap n l w hE hL hl (by omega) hS (Nat.le_refl _) (fun i hi => h2 i (by omega)) _ _ (.inl ⟨rfl, rfl, rfl⟩)
  · exact CheckR_loop p n cap i l w hE hL hl (by omega) hS (by omega) h3 _ _ (.inr ⟨by omega, h4, h5, rfl⟩)

set_option maxHeartbeats 2000000 in
theorem GoodPR_any (p : Option Addr) (n cap : Nat) (l : List Pln) (w : World) (hE : Env w) (hL : PlnsAt w p l) (hl : l.length = n) (hS : ∀ y ∈ l, Sml y) (I E : Int) (h : ChkIs l I E) :
    Calls Tryz.prog 29 #[.slice p n cap] w fun e w' => e = .returned (.bool (E == 0)) ∧ Below w.heap.size w w' := by
  have C1 := Lib.hid (CheckR_any p n cap l w hE hL hl hS I E h)
  clear hE hL hl hS h
  obtain ⟨B, hB⟩ : ∃ B, B = (E == 0) := ⟨_, rfl⟩
  have hB' := hB.symm
  rw [← hB]
  clear hB
  go_enter Tryz.func29, Tryz.ntmps29
  go_wp2_with fail
  refine C1.out.mono ?_
  rintro e w2 ⟨rfl, hb⟩
  go_wp2_with fail
  go_ret
  exact ⟨rfl, hb⟩

set_option maxRecDepth 100000 in
set_option maxHeartbeats 8000000 in
theorem IndexR_loop (p : Option Addr) (n cap m : Nat) (l : List Pln) (d : Int) (w : World) (hL : PlnsAt w p l) (hl : l.length = n) (hm : m ≤ n) (hv : ∀ i y, i < m → l[i]? = some y → on d y = false) (R : Int)
    (hr : (m = n ∧ R = -1) ∨ (∃ x, l[m]? = some x ∧ on d x = true ∧ R = m)) (hn : n ≤ 1000000000) :
    Calls Tryz.prog 30 #[.slice p n cap, .int .i64 d] w fun e w' => e = .returned (.int .i64 R) ∧ Below w.heap.size w w' := by
  have L0 := Lib.hid hL; have HV := Lib.hid hv; have HR := Lib.hid hr; have HL := Lib.hid hl
  clear hL hv hr hl
  go_enter Tryz.func30, Tryz.ntmps30
  go_wp2_with fail
  go_loopw [5] (fun i wr => ∃ k : Nat, k ≤ m ∧ i = .int .i64 k ∧ Below w.heap.size w wr) (fun i _ => n - (intOf i).toNat)
  case atStart => exact ⟨0, Nat.zero_le _, rfl, Below.refl _ _⟩
  case round =>
    obtain ⟨k, hk, rfl, hb⟩ := hrel
    have NB := Lib.hid hb
    by_cases hkn : k < n
    · obtain ⟨x, hx⟩ : ∃ x, l[k]? = some x := ⟨_, List.getElem?_eq_getElem (by rw [HL.out]; omega)⟩
      obtain ⟨blk, off, rfl, hpx, hkx⟩ := L0.out.get hx
      have PX := Lib.hid (hpx.next hb)
      have x0 := PX.out.1; have x1 := PX.out.2.1; have x2 := PX.out.2.2.1; have x3 := PX.out.2.2.2.1; have x4 := PX.out.2.2.2.2
      have zb := PX.out.lt
      have HX := Lib.hid hx
      have hkd : decide ((k : Int) < (n : Int)) = true := by simp; omega
      have hkz : (k : Int) < (n : Int) := by omega
      have C1 := Lib.hid (InR_any x.f x.u d wr)
      obtain ⟨A, hA⟩ : ∃ A, A = on d x := ⟨_, rfl⟩
      have hA' : decide (x.f ≤ d ∧ d < x.u) = A := by rw [hA]; rfl
      rw [hA'] at C1
      have HA := Lib.hid hA
      clear hb hpx hkx hx hA hA'
      go_wp2_with fail
      refine C1.out.mono ?_
      rintro e w2 ⟨rfl, hb2⟩
      have B2 := Lib.hid (NB.out.trans (hb2.mono NB.out.size))
      clear hb2 C1 x0 x1 x2 x3 x4
      cases A with
      | false =>
        have hkm : k < m := by
          rcases HR.out with h | ⟨y, h1, h2, h3⟩
          · omega
          · rcases (show k < m ∨ k = m by omega) with g | g
            · exact g
            · subst g
              obtain rfl : x = y := Option.some.inj (HX.out.symm.trans h1)
              rw [← HA.out] at h2
              cases h2
        go_wp2_with fail
        go_roundw
        case rel => exact ⟨k + 1, by omega, by go_num, B2.out⟩
        case measure => simp [intOf]; omega
      | true =>
        have hR : Hid (R = k) := by
          show R = k
          rcases HR.out with ⟨h1, h2⟩ | ⟨y, h1, h2, h3⟩
          · have := HV.out k x (by omega) HX.out
            rw [← HA.out] at this
            cases this
          · rcases (show k < m ∨ k = m by omega) with g | g
            · have := HV.out k x g HX.out
              rw [← HA.out] at this
              cases this
            · subst g
              exact h3
        go_wp2_with fail
        go_ret
        rw [hR.out]
        exact ⟨rfl, B2.out⟩
    · have hkd : decide ((k : Int) < (n : Int)) = false := by simp; omega
      have hR : Hid (R = -1) := by
        show R = -1
        rcases HR.out with ⟨h1, h2⟩ | ⟨y, h1, h2, h3⟩
        · exact h2
        · have := (List.getElem?_eq_some_iff.1 h1).1
          have := HL.out
          omega
      clear hb
      go_wp2_with fail
      go_ret
      rw [hR.out]
      exact ⟨rfl, NB.out⟩

theorem IndexR_any (p : Option Addr) (n cap : Nat) (l : List Pln) (d : Int) (w : World) (hL : PlnsAt w p l) (hl : l.length = n) (hn : n ≤ 1000000000) :
    Calls Tryz.prog 30 #[.slice p n cap, .int .i64 d] w fun e w' => e = .returned (.int .i64 (idxV (l.findIdx? (on d)))) ∧ Below w.heap.size w w' := by
  rcases first_pl (on d) l with ⟨h1, h2⟩ | ⟨m, x, h1, h2, h3, h4⟩
  · rw [h2]
    exact IndexR_loop p n cap n l d w hL hl (Nat.le_refl _) (fun i y _ hy => h1 y (List.mem_of_getElem? hy)) _ (.inl ⟨rfl, rfl⟩) hn
  · rw [h4]
    exact IndexR_loop p n cap m l d w hL hl (by have := (List.getElem?_eq_some_iff.1 h1).1; omega) (fun i y hi hy => h3 i y hi hy) _ (.inr ⟨x, h1, h2, rfl⟩) hn

set_option maxHeartbeats 2000000 in
theorem AtR_any (p : Option Addr) (n cap : Nat) (l : List Pln) (d : Int) (w : World) (hE : Env w) (hL : PlnsAt w p l) (hl : l.length = n) (hn : n ≤ 1000000000) (hS : ∀ y ∈ l, Sml y) (I E : Int) (h : ChkIs l I E) :
    Calls Tryz.prog 11 #[.slice p n cap, .int .i64 d] w fun e w' => e = .returned (.int .i64 (if E = 0 then idxV (l.findIdx? (on d)) else -1)) ∧ Below w.heap.size w w' := by
  have C1 := Lib.hid (GoodPR_any p n cap l w hE hL hl hS I E h)
  have C2 := Lib.hid (fun w1 (h1 : Below w.heap.size w w1) => IndexR_any p n cap l d w1 (hL.next h1) hl hn)
  obtain ⟨A, hA⟩ : ∃ A, A = idxV (l.findIdx? (on d)) := ⟨_, rfl⟩
  rw [← hA] at C2 ⊢
  clear hE hL hl hS h hA
  by_cases hz : E = 0
  · have e1 : (E == 0) = true := by rw [beq_iff_eq]; exact hz
    rw [if_pos hz]
    rw [e1] at C1
    clear hz e1
    go_enter Tryz.func11, Tryz.ntmps11
    go_wp2_with fail
    refine C1.out.mono ?_
    rintro e w2 ⟨rfl, hb⟩
    have B2 := Lib.hid hb
    clear hb
    go_wp2_with fail
    refine (C2.out _ B2.out).mono ?_
    rintro e w3 ⟨rfl, hb⟩
    have B3 := Lib.hid (B2.out.trans (hb.mono B2.out.size))
    clear hb
    go_wp2_with fail
    go_ret
    exact ⟨rfl, B3.out⟩
  · have e1 : (E == 0) = false := by rw [beq_eq_false_iff_ne]; exact hz
    rw [if_neg hz]
    rw [e1] at C1
    clear hz e1
    go_enter Tryz.func11, Tryz.ntmps11
    go_wp2_with fail
    refine C1.out.mono ?_
    rintro e w2 ⟨rfl, hb⟩
    go_wp2_with fail
    go_ret
    exact ⟨rfl, hb⟩

end Go.Proofs.YtbjbioiggjhknaaGreatDoor
