/-
  Check, for any list of offices; valid. No statement of the seat is proved here.
-/
import Derived.Test.YtchaihdbljkphaaNx
namespace Go.Proofs.Ytchaihdbljkphaa
open Go Go.RowKit Go.Maps

theorem ochk_at {l : List Off} {I E : Int} (h : OChk l I E) {k : Nat} (h1 : l.length ≤ 32) (h2 : k < l.length) (h3 : ∀ j, j < k → ofE l j = 0) {e : Int} (h4 : ofE l k = e) (h5 : e ≠ 0) : I = k ∧ E = e :=
  ochk_one h (.inr (.inr ⟨k, h1, h2, h3, h4, h5, rfl⟩))
theorem ochk_end {l : List Off} {I E : Int} (h : OChk l I E) (h1 : l.length ≤ 32) (h3 : ∀ j, j < l.length → ofE l j = 0) : I = -1 ∧ E = 0 :=
  ochk_one h (.inr (.inl ⟨h1, h3, rfl, rfl⟩))
theorem ofE_slf {l : List Off} {k : Nat} {x : Off} (hx : l[k]? = some x) (h : slfE x ≠ 0) : ofE l k = slfE x := by
  unfold ofE
  rw [hx]
  simp only
  rw [if_pos h]
theorem ofE_bef {l : List Off} {k : Nat} {x : Off} (hx : l[k]? = some x) (h : slfE x = 0) (h2 : bef l k x = true) : ofE l k = 5 := by
  unfold ofE
  rw [hx]
  simp only
  rw [if_neg (fun g => g h), if_pos h2]
theorem ofE_nxt {l : List Off} {k : Nat} {x : Off} (hx : l[k]? = some x) (h : slfE x = 0) (h2 : bef l k x = false) : ofE l k = nxtE l x := by
  unfold ofE
  rw [hx]
  simp only
  rw [if_neg (fun g => g h), if_neg (by rw [h2]; simp)]
theorem slf_n8 {x : Off} (h : slfE x = 0) : x.nx.length ≤ 8 := by
  rcases slf_cases x with ⟨h1, _⟩ | ⟨_, _, h3, _⟩
  · rw [h] at h1; cases h1
  · have := of_decide_eq_false h3
    omega

set_option maxRecDepth 100000 in
set_option maxHeartbeats 8000000 in
theorem Check_any (p : Option Addr) (n c : Nat) (l : List Off) (w : World) (hE : Env w) (hL : OffsAt w p l) (hl : l.length = n) (hF : ∀ x ∈ l, FitO x) (I E : Int) (hIE : OChk l I E) :
    Calls Try.prog 23 #[.slice p n c] w fun e w' => e = .returned (.tuple #[.int .i64 I, .int .i64 E]) ∧ Below w.heap.size w w' := by
  by_cases hb : 32 < n
  · obtain ⟨rfl, rfl⟩ : I = -1 ∧ E = 8 := ochk_one hIE (.inl ⟨by omega, rfl, rfl⟩)
    have d1 : decide ((n : Int) > 32) = true := decide_eq_true (by omega)
    have d2 : decide (32 < n) = true := decide_eq_true hb
    clear hE hL hl hF hIE hb
    go_enter Try.func23, Try.ntmps23
    go_wp2_with fail
    go_ret2
    exact ⟨rfl, Below.refl _ _⟩
  have hn : n ≤ 32 := by omega
  have d1 : decide ((n : Int) > 32) = false := decide_eq_false (by omega)
  have d2 : decide (32 < n) = false := decide_eq_false hb
  have HL := Lib.hid hl
  have LV := Lib.hid (fun (v : World) (h : Below w.heap.size w v) => hL.next h)
  have EV := Lib.hid (fun (v : World) (h : Below w.heap.size w v) => hE.below h)
  have FF := Lib.hid hF
  have CH := Lib.hid hIE
  have BY := Lib.hid (byID_any p n c l w hL hl (by omega) hF)
  clear hE hL hl hF hIE hb
  go_enter Try.func23, Try.ntmps23
  go_wp2_with fail
  refine BY.out.mono ?_
  rintro e w1 ⟨rfl, hM, hB⟩
  obtain ⟨b, hb⟩ : ∃ b, b = w.heap.size := ⟨_, rfl⟩
  rw [← hb] at hM ⊢
  have N1 := Lib.hid hB
  have M1 := Lib.hid (fun (v : World) (h : Below w1.heap.size w1 v) => hM.next h)
  have HB := Lib.hid hb
  clear hM hB BY hb
  go_wp2_with fail
  go_loopw [16] (fun i wr => ∃ k : Nat, k ≤ n ∧ i = .int .i64 k ∧ (∀ j, j < k → ofE l j = 0) ∧ Below w1.heap.size w1 wr) (fun i _ => n - iv i)
  case atStart => exact ⟨0, Nat.zero_le _, rfl, fun j hj => absurd hj (Nat.not_lt_zero _), Below.refl _ _⟩
  case round =>
    obtain ⟨k, hk, rfl, hA, hB⟩ := hrel
    have NA := Lib.hid hA; have NB := Lib.hid hB
    clear hA hB
    by_cases hkn : k < n
    · obtain ⟨x, hx⟩ : ∃ x, l[k]? = some x := ⟨_, List.getElem?_eq_getElem (by rw [HL.out]; exact hkn)⟩
      have NW : Hid (Below w.heap.size w wr) := N1.out.trans (NB.out.mono N1.out.size)
      obtain ⟨blk, off, hnp, ha, hxn⟩ := (LV.out wr NW.out).get hx
      have q0 := ha.1; have q1 := ha.2.1; have q2 := ha.2.2.1; have q3 := ha.2.2.2.1; have q4 := ha.2.2.2.2
      have zb := ha.lt
      have hkd : decide ((k : Int) < (n : Int)) = true := by simp; omega
      have hxl := List.mem_of_getElem? hx
      have HX := Lib.hid hx
      have FX := Lib.hid (FF.out x hxl)
      have A1 : Hid (Below wr.heap.size wr (wr.alloc (.cells #[.int .i64 x.id, .string x.nm, .int .i64 x.fr, .int .i64 x.un, .slice x.np x.nx.length x.nc] 43))) := (Below.refl _ _).alloc (Nat.le_refl _) _
      have SE := Lib.hid (fun v h => Self_any x v (EV.out v h) FX.out)
      have X1 := Lib.hid (off_new wr x 43)
      have XN := Lib.hid hxn
      clear ha hx hxl hxn
      subst hnp
      go_wp2_with fail
      refine (SE.out _ (NW.out.trans (A1.out.mono NW.out.size))).mono ?_
      rintro e w2 ⟨rfl, hb⟩
      have A2 := Lib.hid (A1.out.trans (hb.mono A1.out.size))
      have X2 := Lib.hid (X1.out.next hb)
      have NB2 := Lib.hid (NB.out.trans (A2.out.mono NB.out.size))
      have NW2 := Lib.hid (NW.out.trans (A2.out.mono NW.out.size))
      clear hb q0 q1 q2 q3 q4 zb
      obtain ⟨R, hR⟩ : ∃ R, slfE x = R := ⟨_, rfl⟩
      have HR := Lib.hid hR
      rw [hR]
      clear hR
      by_cases hz : R = 0
      case neg =>
        have d3 : (R != 0) = true := by simp [hz]
        have d4 : (R == 0) = false := by simp [hz]
        obtain ⟨rfl, rfl⟩ : I = k ∧ E = R := ochk_at CH.out (by rw [HL.out]; exact hn) (by rw [HL.out]; exact hkn) NA.out (by rw [ofE_slf HX.out (by rw [HR.out]; exact hz), HR.out]) hz
        clear hz
        go_wp2_with fail
        go_ret2
        exact ⟨rfl, NW2.out⟩
      subst hz
      have d3 : ((0 : Int) != 0) = false := by simp
      go_wp2_with fail
      have q0 := X2.out.1; have q1 := X2.out.2.1; have q2 := X2.out.2.2.1; have q3 := X2.out.2.2.2.1; have q4 := X2.out.2.2.2.2
      have zb := X2.out.lt
      have NXT := Lib.hid (fun v h h2 => Next_any b l x v (M1.out v h) (XN.out.next h2) FX.out (slf_n8 HR.out))
      obtain ⟨B, hB⟩ : ∃ B, bef l k x = B := ⟨_, rfl⟩
      have HB2 := Lib.hid hB
      by_cases hk0 : 0 < k
      · obtain ⟨y, hy⟩ : ∃ y, l[k - 1]? = some y := ⟨_, List.getElem?_eq_getElem (by have := HL.out; omega)⟩
        obtain ⟨blk2, off2, e2, ha, _⟩ := (LV.out w2 NW2.out).get hy
        cases e2
        have p0 := ha.1
        have zb2 := ha.lt
        have g1 : decide ((k : Int) > 0) = true := decide_eq_true (by omega)
        have g2 : decide (0 < k) = true := decide_eq_true hk0
        have i1 : (0 : Int) ≤ (k : Int) - 1 := by omega
        have i2 : (k : Int) - 1 < (n : Int) := by omega
        have i3 : ((k : Int) - 1).toNat = k - 1 := by omega
        have i4 : IntKind.i64.wrap ((k : Int) - 1) = (k : Int) - 1 := IntWalk.i64_in _ (by omega)
        have i8 : (1 : Int) ≤ (k : Int) := by omega
        have i9 : (k : Int) ≤ (n : Int) := by omega
        have le : decide (x.id ≤ y.id) = B := by
          rw [← hB]
          unfold bef
          rw [decide_eq_true hk0, hy, Bool.true_and]
        clear ha hy hB
        cases B with
        | true =>
          obtain ⟨rfl, rfl⟩ : I = k ∧ E = 5 := ochk_at CH.out (by rw [HL.out]; exact hn) (by rw [HL.out]; exact hkn) NA.out (ofE_bef HX.out HR.out HB2.out) (by decide)
          go_quiet (fail)
          go_wp2_with fail
          go_ret2
          exact ⟨rfl, below_drewN NW2.out _⟩
        | false =>
          go_quiet (fail)
          go_wp2_with fail
          refine (NXT.out _ (below_drewN NB2.out _) (below_drewN A2.out _)).mono ?_
          rintro e w3 ⟨rfl, hb⟩
          have A3 := Lib.hid ((below_drewN A2.out _).trans (hb.mono A2.out.size))
          have NB3 := Lib.hid (NB.out.trans (A3.out.mono NB.out.size))
          have NW3 := Lib.hid (NW.out.trans (A3.out.mono NW.out.size))
          clear hb q0 q1 q2 q3 q4 zb
          obtain ⟨R, hR⟩ : ∃ R, nxtE l x = R := ⟨_, rfl⟩
          have HR3 := Lib.hid hR
          rw [hR]
          clear hR
          by_cases hz : R = 0
          case neg =>
            have d3 : (R != 0) = true := by simp [hz]
            have d4 : (R == 0) = false := by simp [hz]
            obtain ⟨rfl, rfl⟩ : I = k ∧ E = R := ochk_at CH.out (by rw [HL.out]; exact hn) (by rw [HL.out]; exact hkn) NA.out (by rw [ofE_nxt HX.out HR.out HB2.out]; exact HR3.out) hz
            clear hz
            go_wp2_with fail
            go_ret2
            exact ⟨rfl, NW3.out⟩
          subst hz
          have d4 : ((0 : Int) != 0) = false := by simp
          have NA2 : Hid (∀ j, j < k + 1 → ofE l j = 0) := by
            show ∀ j, j < k + 1 → ofE l j = 0
            intro j hj
            rcases (show j < k ∨ j = k by omega) with g | g
            · exact NA.out j g
            · subst g
              rw [ofE_nxt HX.out HR.out HB2.out]
              exact HR3.out
          go_wp2_with fail
          go_roundw
          case rel => exact ⟨k + 1, by omega, by go_num, NA2.out, NB3.out⟩
          case measure => simp only [iv]; omega
      · have g1 : decide ((k : Int) > 0) = false := decide_eq_false (by omega)
        have g2 : decide (0 < k) = false := decide_eq_false hk0
        have e0 : B = false := by
          rw [← hB]
          unfold bef
          rw [decide_eq_false hk0, Bool.false_and]
        subst e0
        clear hB
        go_quiet (fail)
        go_wp2_with fail
        refine (NXT.out _ (below_drewN NB2.out _) (below_drewN A2.out _)).mono ?_
        rintro e w3 ⟨rfl, hb⟩
        have A3 := Lib.hid ((below_drewN A2.out _).trans (hb.mono A2.out.size))
        have NB3 := Lib.hid (NB.out.trans (A3.out.mono NB.out.size))
        have NW3 := Lib.hid (NW.out.trans (A3.out.mono NW.out.size))
        clear hb q0 q1 q2 q3 q4 zb
        obtain ⟨R, hR⟩ : ∃ R, nxtE l x = R := ⟨_, rfl⟩
        have HR3 := Lib.hid hR
        rw [hR]
        clear hR
        by_cases hz : R = 0
        case neg =>
          have d3 : (R != 0) = true := by simp [hz]
          have d4 : (R == 0) = false := by simp [hz]
          obtain ⟨rfl, rfl⟩ : I = k ∧ E = R := ochk_at CH.out (by rw [HL.out]; exact hn) (by rw [HL.out]; exact hkn) NA.out (by rw [ofE_nxt HX.out HR.out HB2.out]; exact HR3.out) hz
          clear hz
          go_wp2_with fail
          go_ret2
          exact ⟨rfl, NW3.out⟩
        subst hz
        have d4 : ((0 : Int) != 0) = false := by simp
        have NA2 : Hid (∀ j, j < k + 1 → ofE l j = 0) := by
          show ∀ j, j < k + 1 → ofE l j = 0
          intro j hj
          rcases (show j < k ∨ j = k by omega) with g | g
          · exact NA.out j g
          · subst g
            rw [ofE_nxt HX.out HR.out HB2.out]
            exact HR3.out
        go_wp2_with fail
        go_roundw
        case rel => exact ⟨k + 1, by omega, by go_num, NA2.out, NB3.out⟩
        case measure => simp only [iv]; omega
    · obtain rfl : k = n := by omega
      have hkd : decide ((k : Int) < (k : Int)) = false := by simp
      obtain ⟨rfl, rfl⟩ := ochk_end CH.out (by rw [HL.out]; exact hn) (by rw [HL.out]; exact NA.out)
      go_wp2_with fail
      go_ret2
      exact ⟨rfl, N1.out.trans (NB.out.mono N1.out.size)⟩

end Go.Proofs.Ytchaihdbljkphaa
