/-
  fault, Check and Good of the reference. No statement of the seat is proved here.
-/
import Derived.Test.YtchaihdbljkphaaRs0
namespace Go.Proofs.Ytchaihdbljkphaa
open Go Go.RowKit Go.Maps Go.Joins

set_option maxRecDepth 100000 in
set_option maxHeartbeats 8000000 in
theorem fault_any (p : Option Addr) (n c : Nat) (l : List Off) (i : Nat) (x : Off) (w : World) (hL : OffsAt w p l) (hl : l.length = n) (hn : n ≤ 1000) (hx : l[i]? = some x) (hF : FitO x) :
    Calls Try.prog 59 #[.slice p n c, .int .i64 i] w fun e w' => e = .returned (.int .i64 (ofE l i)) ∧ Below w.heap.size w w' := by
  obtain ⟨R, hR⟩ : ∃ R, ofE l i = R := ⟨_, rfl⟩
  rw [hR]
  have HR := Lib.hid hR
  have HL := Lib.hid hl
  have LV := Lib.hid (fun (v : World) (h : Below w.heap.size w v) => hL.next h)
  obtain ⟨blk, off, rfl, ha, hxn⟩ := hL.get hx
  have hin : i < n := by rw [← hl]; exact (List.getElem?_eq_some_iff.1 hx).1
  have q0 := ha.1; have q1 := ha.2.1; have q2 := ha.2.2.1; have q3 := ha.2.2.2.1; have q4 := ha.2.2.2.2
  have zb := ha.lt
  have k1 : (0 : Int) ≤ (i : Int) := by omega
  have k2 : (i : Int) < (n : Int) := by omega
  obtain ⟨m, hm⟩ : ∃ m, x.nx.length = m := ⟨_, rfl⟩
  have HM := Lib.hid hm
  have ON := off_new w x 43
  rw [hm] at q4 ON
  obtain ⟨w1, hw1⟩ : ∃ w1, w1 = w.alloc (.cells #[.int .i64 x.id, .string x.nm, .int .i64 x.fr, .int .i64 x.un, .slice x.np m x.nc] 43) := ⟨_, rfl⟩
  have W1 : Hid (Below w.heap.size w w1) := by
    show Below _ _ _
    rw [hw1]
    exact (Below.refl _ _).alloc (Nat.le_refl _) _
  rw [← hw1] at ON
  have XX := Lib.hid (fun (v : World) (h : Below w1.heap.size w1 v) => ON.next h)
  obtain ⟨z0, hz0⟩ : ∃ z0, z0 = w.heap.size := ⟨_, rfl⟩
  rw [← hz0] at XX
  have HX := Lib.hid hx
  have XN := Lib.hid (fun (v : World) (h : Below w.heap.size w v) => hxn.next h)
  obtain ⟨B1, b1⟩ : ∃ B, decide (x.id < 1) = B := ⟨_, rfl⟩
  obtain ⟨B2, b2⟩ : ∃ B, decide (x.id > 1073741824) = B := ⟨_, rfl⟩
  obtain ⟨B3, b3⟩ : ∃ B, decide (spn x.fr x.un) = B := ⟨_, rfl⟩
  obtain ⟨B4, b4⟩ : ∃ B, decide ((m : Int) > 8) = B := ⟨_, rfl⟩
  have b2' : decide (1073741824 < x.id) = B2 := b2
  have b4' : decide (8 < m) = B4 := by rw [← b4]; exact decide_eq_decide.2 (by omega)
  obtain ⟨B5, b5⟩ : ∃ B, nameB (bs x.nm) = B := ⟨_, rfl⟩
  have GD := Lib.hid (fun v => Good_any x.fr x.un v)
  have NM := Lib.hid (fun v => NameR_any x.nm v hF.2.2.2.2.2)
  simp only [b3] at GD
  simp only [b5] at NM
  -- what the code's own check says
  have E2 : Hid ((B1 = true ∨ B2 = true ∨ B3 = false ∨ B4 = true) → slfE x = 2) := fun h => by
    unfold slfE
    rw [if_pos]
    rintro ⟨a1, a2, a3, a4, a5, a6⟩
    rcases h with h | h | h | h
    · rw [← b1] at h; have := of_decide_eq_true h; omega
    · rw [← b2] at h; have := of_decide_eq_true h; omega
    · rw [← b3] at h; exact of_decide_eq_false h ⟨a3, a4, a5⟩
    · rw [← b4] at h; have := of_decide_eq_true h; omega
  have E4 : Hid (B1 = false → B2 = false → B3 = true → B4 = false → slfE x = if B5 = false then 4 else 0) := fun h1 h2 h3 h4 => by
    unfold slfE
    rw [← b1] at h1; rw [← b2] at h2; rw [← b3] at h3; rw [← b4] at h4
    have h1 := of_decide_eq_false h1
    have h2 := of_decide_eq_false h2
    have h3 := of_decide_eq_true h3
    have h4 := of_decide_eq_false h4
    rw [if_neg (fun g => g ⟨by omega, by omega, h3.1, h3.2.1, h3.2.2, by omega⟩), b5]
  have ER : Hid (slfE x ≠ 0 → R = slfE x) := fun h => by rw [← HR.out]; exact ofE_slf HX.out h
  clear hL hl hR hx hF hm ON hxn ha b3 b5
  cases B1 with
  | true =>
    have S := E2.out (.inl rfl)
    have T : R = 2 := by rw [ER.out (by rw [S]; decide), S]
    subst T
    clear S b2 b2'
    go_enter Try.func59, Try.ntmps59
    go_wp2_with fail
    go_ret
    exact ⟨rfl, (Below.refl _ _).alloc (Nat.le_refl _) _⟩
  | false =>
  cases B2 with
  | true =>
    have S := E2.out (.inr (.inl rfl))
    have T : R = 2 := by rw [ER.out (by rw [S]; decide), S]
    subst T
    clear S
    go_enter Try.func59, Try.ntmps59
    go_wp2_with fail
    go_ret
    exact ⟨rfl, (Below.refl _ _).alloc (Nat.le_refl _) _⟩
  | false =>
  go_enter Try.func59, Try.ntmps59
  go_wp2_with fail
  rw [← hw1, ← hz0]
  clear hw1 hz0 q0 q1 q2 q3 q4 zb
  refine (GD.out _).mono ?_
  rintro e w2 ⟨rfl, hb⟩
  have K2 := Lib.hid hb
  have N2 := Lib.hid (W1.out.trans (hb.mono W1.out.size))
  clear hb
  cases B3 with
  | false =>
    have S := E2.out (.inr (.inr (.inl rfl)))
    have T : R = 2 := by rw [ER.out (by rw [S]; decide), S]
    subst T
    clear S
    go_wp2_with fail
    go_ret
    exact ⟨rfl, N2.out⟩
  | true =>
  have q4 := (XX.out w2 K2.out).2.2.2.2
  have q1 := (XX.out w2 K2.out).2.1
  have zb := (XX.out w2 K2.out).lt
  rw [HM.out] at q4
  cases B4 with
  | true =>
    have S := E2.out (.inr (.inr (.inr rfl)))
    have T : R = 2 := by rw [ER.out (by rw [S]; decide), S]
    subst T
    clear S
    go_wp2_with fail
    go_ret
    exact ⟨rfl, N2.out⟩
  | false =>
  have S := E4.out (by first | trivial | rfl) (by first | trivial | rfl) (by first | trivial | rfl) (by first | trivial | rfl)
  have m8 : m ≤ 8 := by have := of_decide_eq_false b4; omega
  go_wp2_with fail
  refine (NM.out _).mono ?_
  rintro e w3 ⟨rfl, hb⟩
  have K3 := Lib.hid (K2.out.trans (hb.mono K2.out.size))
  have N3 := Lib.hid (N2.out.trans (hb.mono N2.out.size))
  clear hb q4 q1 zb
  cases B5 with
  | false =>
    rw [if_pos rfl] at S
    have T : R = 4 := by rw [ER.out (by rw [S]; decide), S]
    subst T
    clear S
    go_wp2_with fail
    go_ret
    exact ⟨rfl, N3.out⟩
  | true =>
  rw [if_neg (by simp)] at S
  have q0 := (XX.out w3 K3.out).1; have q1 := (XX.out w3 K3.out).2.1; have q2 := (XX.out w3 K3.out).2.2.1; have q3 := (XX.out w3 K3.out).2.2.2.1
  have q4 := (XX.out w3 K3.out).2.2.2.2
  rw [HM.out] at q4
  have zb := (XX.out w3 K3.out).lt
  have SU := Lib.hid (fun v (h : Below w.heap.size w v) => succ_any (some ⟨blk, off, none⟩) n c l x v (LV.out v h) HL.out hn (XN.out v h) (by rw [HM.out]; exact m8))
  simp only [HM.out] at SU
  obtain ⟨B, hB⟩ : ∃ B, bef l i x = B := ⟨_, rfl⟩
  have HB := Lib.hid hB
  have SL := Lib.hid S
  clear S b1 b2 b2' b4 b4'
  by_cases hi0 : 0 < i
  · obtain ⟨y, hy⟩ : ∃ y, l[i - 1]? = some y := ⟨_, List.getElem?_eq_getElem (by have := HL.out; omega)⟩
    obtain ⟨blk2, off2, e2, ha, _⟩ := (LV.out w3 N3.out).get hy
    cases e2
    have p0 := ha.1
    have zb2 := ha.lt
    have g1 : decide ((i : Int) > 0) = true := decide_eq_true (by omega)
    have g2 : decide (0 < i) = true := decide_eq_true hi0
    have i1 : (0 : Int) ≤ (i : Int) - 1 := by omega
    have i2 : (i : Int) - 1 < (n : Int) := by omega
    have i3 : ((i : Int) - 1).toNat = i - 1 := by omega
    have i4 : IntKind.i64.wrap ((i : Int) - 1) = (i : Int) - 1 := IntWalk.i64_in _ (by omega)
    have i8 : (1 : Int) ≤ (i : Int) := by omega
    have i9 : (i : Int) ≤ (n : Int) := by omega
    have le : decide (x.id ≤ y.id) = B := by
      rw [← hB]
      unfold bef
      rw [decide_eq_true hi0, hy, Bool.true_and]
    clear ha hy hB
    cases B with
    | true =>
      have T : R = 5 := by rw [← HR.out]; exact ofE_bef HX.out SL.out HB.out
      subst T
      go_wp2_with fail
      go_quiet (fail)
      go_wp2_with fail
      go_ret
      exact ⟨rfl, below_drewN N3.out _⟩
    | false =>
      have T : nxtE l x = R := by rw [← HR.out]; exact (ofE_nxt HX.out SL.out HB.out).symm
      rw [T] at SU
      clear T
      go_wp2_with fail
      go_quiet (fail)
      go_wp2_with fail
      refine (SU.out _ (below_drewN N3.out _)).mono ?_
      rintro e w4 ⟨rfl, hb⟩
      have N4 : Hid (Below w.heap.size w w4) := (below_drewN N3.out nq).trans (hb.mono N3.out.size)
      clear hb
      go_wp2_with fail
      go_ret
      exact ⟨rfl, N4.out⟩
  · have g1 : decide ((i : Int) > 0) = false := decide_eq_false (by omega)
    have g2 : decide (0 < i) = false := decide_eq_false hi0
    have e0 : B = false := by
      rw [← hB]
      unfold bef
      rw [decide_eq_false hi0, Bool.false_and]
    subst e0
    clear hB
    have T : nxtE l x = R := by rw [← HR.out]; exact (ofE_nxt HX.out SL.out HB.out).symm
    rw [T] at SU
    clear T
    go_wp2_with fail
    go_quiet (fail)
    go_wp2_with fail
    refine (SU.out _ (below_drewN N3.out _)).mono ?_
    rintro e w4 ⟨rfl, hb⟩
    have N4 : Hid (Below w.heap.size w w4) := (below_drewN N3.out nq).trans (hb.mono N3.out.size)
    clear hb
    go_wp2_with fail
    go_ret
    exact ⟨rfl, N4.out⟩

set_option maxRecDepth 100000 in
set_option maxHeartbeats 8000000 in
theorem refCheck_any (p : Option Addr) (n c : Nat) (l : List Off) (w : World) (hL : OffsAt w p l) (hl : l.length = n) (hn : n ≤ 1000) (hF : ∀ x ∈ l, FitO x) (I E : Int) (hIE : OChk l I E) :
    Calls Try.prog 45 #[.slice p n c] w fun e w' => e = .returned (.tuple #[.int .i64 I, .int .i64 E]) ∧ Below w.heap.size w w' := by
  by_cases hb : 32 < n
  · obtain ⟨rfl, rfl⟩ : I = -1 ∧ E = 8 := ochk_one hIE (.inl ⟨by omega, rfl, rfl⟩)
    have d1 : decide ((n : Int) > 32) = true := decide_eq_true (by omega)
    have d2 : decide (32 < n) = true := decide_eq_true hb
    clear hL hl hF hIE hb
    go_enter Try.func45, Try.ntmps45
    go_wp2_with fail
    go_ret2
    exact ⟨rfl, Below.refl _ _⟩
  have hn3 : n ≤ 32 := by omega
  have d1 : decide ((n : Int) > 32) = false := decide_eq_false (by omega)
  have d2 : decide (32 < n) = false := decide_eq_false hb
  have HL := Lib.hid hl
  have LV := Lib.hid (fun (v : World) (h : Below w.heap.size w v) => hL.next h)
  have FF := Lib.hid hF
  have CH := Lib.hid hIE
  clear hL hl hF hIE hb
  go_enter Try.func45, Try.ntmps45
  go_wp2_with fail
  go_loopw [4] (fun i wr => ∃ k : Nat, k ≤ n ∧ i = .int .i64 k ∧ (∀ j, j < k → ofE l j = 0) ∧ Below w.heap.size w wr) (fun i _ => n - iv i)
  case atStart => exact ⟨0, Nat.zero_le _, rfl, fun j hj => absurd hj (Nat.not_lt_zero _), Below.refl _ _⟩
  case round =>
    obtain ⟨k, hk, rfl, hA, hB⟩ := hrel
    have NA := Lib.hid hA; have NB := Lib.hid hB
    clear hA hB
    by_cases hkn : k < n
    · obtain ⟨x, hx⟩ : ∃ x, l[k]? = some x := ⟨_, List.getElem?_eq_getElem (by rw [HL.out]; exact hkn)⟩
      have hkd : decide ((k : Int) < (n : Int)) = true := by simp; omega
      have FA := Lib.hid (fault_any p n c l k x wr (LV.out wr NB.out) HL.out hn hx (FF.out x (List.mem_of_getElem? hx)))
      obtain ⟨R, hR⟩ : ∃ R, ofE l k = R := ⟨_, rfl⟩
      rw [hR] at FA
      have HR := Lib.hid hR
      clear hx hR
      go_wp2_with fail
      refine FA.out.mono ?_
      rintro e w2 ⟨rfl, hb⟩
      have NB2 := Lib.hid (NB.out.trans (hb.mono NB.out.size))
      clear hb FA
      by_cases hz : R = 0
      · subst hz
        have d3 : ((0 : Int) != 0) = false := by simp
        have NA2 : Hid (∀ j, j < k + 1 → ofE l j = 0) := by
          show ∀ j, j < k + 1 → ofE l j = 0
          intro j hj
          rcases (show j < k ∨ j = k by omega) with g | g
          · exact NA.out j g
          · subst g; exact HR.out
        go_wp2_with fail
        go_roundw
        case rel => exact ⟨k + 1, by omega, by go_num, NA2.out, NB2.out⟩
        case measure => simp only [iv]; omega
      · have d3 : (R != 0) = true := by simp [hz]
        have d4 : (R == 0) = false := by simp [hz]
        obtain ⟨rfl, rfl⟩ : I = k ∧ E = R := ochk_at CH.out (by rw [HL.out]; exact hn3) (by rw [HL.out]; exact hkn) NA.out HR.out hz
        clear hz
        go_wp2_with fail
        go_ret2
        exact ⟨rfl, NB2.out⟩
    · obtain rfl : k = n := by omega
      have hkd : decide ((k : Int) < (k : Int)) = false := by simp
      obtain ⟨rfl, rfl⟩ := ochk_end CH.out (by rw [HL.out]; exact hn3) (by rw [HL.out]; exact NA.out)
      go_wp2_with fail
      go_ret2
      exact ⟨rfl, NB.out⟩
set_option maxRecDepth 100000 in
theorem good_any (p : Option Addr) (n c : Nat) (l : List Off) (w : World) (hL : OffsAt w p l) (hl : l.length = n) (hn : n ≤ 1000) (hF : ∀ x ∈ l, FitO x) (I E : Int) (hIE : OChk l I E) :
    Calls Try.prog 34 #[.slice p n c] w fun e w' => e = .returned (.bool (E == 0)) ∧ Below w.heap.size w w' := by
  have CC := Lib.hid (refCheck_any p n c l w hL hl hn hF I E hIE)
  clear hL hl hF hIE
  go_enter Try.func34, Try.ntmps34
  go_wp2_with fail
  refine CC.out.mono ?_
  rintro e w2 ⟨rfl, hb⟩
  have N2 := Lib.hid hb
  clear hb CC
  go_wp2_with fail
  go_ret
  exact ⟨rfl, N2.out⟩

end Go.Proofs.Ytchaihdbljkphaa
