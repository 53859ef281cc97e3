/-
  PROVED HERE: the law archivumlaw04.TimelineLayers answers true for every two lists of pieces and day: one timeline over another has on every day the upper one's value, or else the lower one's; it is in order; nothing over or under a timeline leaves it as it is; it differs from the lower one only where the upper one has a value. No condition. Every input is spoken of.
-/
import Derived.Test.YtcgjhbjbfdbfaaaDs
import Derived.Test.YtcgjhbjbfdbfaaaOv
namespace Go.Proofs.Ytcgjhbjbfdbfaaa
open Go.ChangeShapes Go.WideShapes Go.ChangeAt Go.RowKit Go.Joins

theorem LsAt.le {B n cap : Nat} {w : World} {p : Option Addr} {F U V : Nat → Int} (h : LsAt B w p n cap F U V) : n ≤ cap := by
  rcases h with ⟨_, h1, h2⟩ | ⟨_, _, _, _, _, h, _⟩
  · omega
  · exact h
theorem AtRes.has_iff {n : Nat} {F U V : Nat → Int} {d A : Int} {O : Bool} (hW : Wk n F U) (h : AtRes n F U V d A O) (x : Int) : Has n F U V d x ↔ O = true ∧ A = x := by
  rcases h with ⟨rfl, h⟩ | ⟨rfl, rfl, h⟩
  · exact ⟨fun g => ⟨rfl, h.fn hW g⟩, fun g => by rw [← g.2]; exact h⟩
  · exact ⟨fun g => absurd g (h x), fun g => by cases g.1⟩
theorem over_res {n n3 : Nat} {F U V F3 U3 V3 : Nat → Int} {va vb : Int → Int} {oa ob : Int → Bool} (ha : ∀ d, AtRes n F U V d (va d) (oa d)) (hH : ∀ d x, Has n3 F3 U3 V3 d x ↔ (ob d = true ∧ vb d = x) ∨ (ob d = false ∧ oa d = true ∧ va d = x)) (d : Int) :
    AtRes n3 F3 U3 V3 d (if ob d = true then vb d else va d) (ob d || oa d) := by
  have h := hH d
  have hA := ha d
  cases hb : ob d
  · rw [hb] at h
    cases ho : oa d
    · rcases hA with ⟨g, _⟩ | ⟨_, g, _⟩
      · rw [ho] at g; cases g
      · refine Or.inr ⟨rfl, by simp [g], fun x hx => ?_⟩
        rw [h, ho] at hx
        rcases hx with ⟨c, _⟩ | ⟨_, c, _⟩ <;> cases c
    · exact Or.inl ⟨rfl, (h _).2 (Or.inr ⟨rfl, ho, by simp⟩)⟩
  · rw [hb] at h
    exact Or.inl ⟨rfl, (h _).2 (Or.inl ⟨rfl, by simp⟩)⟩

set_option maxRecDepth 100000 in
set_option maxHeartbeats 4000000 in
theorem layers_large (p : Option Addr) (n cap : Nat) (q : Option Addr) (m capq : Nat) (d : Int) (w : World) (hn : 40 < n ∨ 40 < m) :
    Calls Try.prog 9 #[.slice p n cap, .slice q m capq, .int .i64 d] w fun e w' => e = .returned (.bool true) ∧ Below w.heap.size w w' := by
  by_cases h1 : 40 < n
  · have hk : (40 : Int) < (n : Int) := by omega
    clear hn h1
    go_enter Try.func9, Try.ntmps9
    go_wp2_with fail
    refine (awake_true _).mono ?_
    rintro e1 w1 ⟨rfl, hb⟩
    go_wp2_with fail
    go_ret
    exact ⟨rfl, hb⟩
  · have hk : (n : Int) ≤ 40 := by omega
    have hk2 : (40 : Int) < (m : Int) := by omega
    clear hn h1
    go_enter Try.func9, Try.ntmps9
    go_wp2_with fail
    refine (awake_true _).mono ?_
    rintro e1 w1 ⟨rfl, hb⟩
    go_wp2_with fail
    go_ret
    exact ⟨rfl, hb⟩

set_option maxRecDepth 100000 in
set_option maxHeartbeats 4000000 in
theorem layers_bad (p : Option Addr) (n cap : Nat) (F U V : Nat → Int) (q : Option Addr) (m capq : Nat) (G H I : Nat → Int) (d E1 E2 X : Int) (w : World) (hP : PcsAt w p n F U V) (hQ : PcsAt w q m G H I) (hn : n ≤ 40) (hm : m ≤ 40) (C1 : ChecksTo 16 p n cap F U V E1) (C2 : ChecksTo 16 q m capq G H I E2) (hX : (E1 ≠ 0 ∧ X = E1) ∨ (E1 = 0 ∧ E2 ≠ 0 ∧ X = E2)) :
    Calls Try.prog 9 #[.slice p n cap, .slice q m capq, .int .i64 d] w fun e w' => e = .returned (.bool true) ∧ Below w.heap.size w w' := by
  have hk : (n : Int) ≤ 40 := by omega
  have hk2 : (m : Int) ≤ 40 := by omega
  have D := Lib.hid (fun w hP hQ => Over_bad p n cap F U V q m capq G H I E1 E2 X w hP hQ C1 C2 hX)
  have hx : (X != 0) = true := by
    rcases hX with h | h
    · rw [h.2]; simpa using h.1
    · rw [h.2.2]; simpa using h.2.1
  have P0 := Lib.hid hP; have Q0 := Lib.hid hQ
  clear hP hQ C1 C2 hX
  go_enter Try.func9, Try.ntmps9
  go_wp2_with fail
  refine (awake_true _).mono ?_
  rintro e1 w1 ⟨rfl, hb⟩
  have P1 := Lib.hid (P0.out.below hb); have Q1 := Lib.hid (Q0.out.below hb); have B1 := Lib.hid hb
  clear hb
  go_wp2_with fail
  refine (D.out _ P1.out Q1.out).mono ?_
  rintro e1 w2 ⟨rfl, hb⟩
  have B2 := Lib.hid (B1.out.trans (hb.mono B1.out.size))
  clear hb
  go_wp2_with fail
  go_ret
  exact ⟨rfl, B2.out⟩

set_option maxRecDepth 100000 in
set_option maxHeartbeats 16000000 in
theorem layers_ok (p : Option Addr) (n cap : Nat) (F U V : Nat → Int) (q : Option Addr) (m capq : Nat) (G H I : Nat → Int) (d : Int) (w : World) (hP : PcsAt w p n F U V) (hQ : PcsAt w q m G H I) (hcp : n ≤ cap) (hcq : m ≤ capq) (hn : n ≤ 40) (hm : m ≤ 40) (hT : Tl n F U V) (hT2 : Tl m G H I) :
    Calls Try.prog 9 #[.slice p n cap, .slice q m capq, .int .i64 d] w fun e w' => e = .returned (.bool true) ∧ Below w.heap.size w w' := by
  have hk : (n : Int) ≤ 40 := by omega
  have hk2 : (m : Int) ≤ 40 := by omega
  obtain ⟨va, oa, ha⟩ : ∃ (va : Int → Int) (oa : Int → Bool), ∀ d, AtRes n F U V d (va d) (oa d) :=
    ⟨fun d => (has_res (V := V) hT.1 d).choose, fun d => (has_res (V := V) hT.1 d).choose_spec.choose, fun d => (has_res (V := V) hT.1 d).choose_spec.choose_spec⟩
  obtain ⟨vb, ob, hb0⟩ : ∃ (vb : Int → Int) (ob : Int → Bool), ∀ d, AtRes m G H I d (vb d) (ob d) :=
    ⟨fun d => (has_res (V := I) hT2.1 d).choose, fun d => (has_res (V := I) hT2.1 d).choose_spec.choose, fun d => (has_res (V := I) hT2.1 d).choose_spec.choose_spec⟩
  have P0 := Lib.hid hP; have Q0 := Lib.hid hQ; have T1 := Lib.hid hT; have T2 := Lib.hid hT2; have HA := Lib.hid ha; have HB := Lib.hid hb0
  have NIL : Hid (∀ d, AtRes 0 F U V d ((fun _ => 0 : Int → Int) d) ((fun _ => false : Int → Bool) d)) := fun d => Or.inr ⟨rfl, rfl, fun x h => absurd h Has.zero⟩
  have TNIL : Hid (Tl 0 F U V) := Tl.nil
  clear hP hQ hT hT2 ha hb0
  go_enter Try.func9, Try.ntmps9
  go_wp2_with fail
  refine (awake_true _).mono ?_
  rintro e1 w1 ⟨rfl, hb⟩
  have P1 := Lib.hid (P0.out.below hb); have Q1 := Lib.hid (Q0.out.below hb); have B1 := Lib.hid hb
  clear hb P0 Q0
  go_wp2_with fail
  refine (over_ok p n cap F U V q m capq G H I va oa vb ob _ P1.out Q1.out hcp hcq (by omega) T1.out T2.out HA.out HB.out).mono ?_
  rintro e1 w2 ⟨p3, n3, cap3, F3, U3, V3, rfl, hL3, hT3, hn3, hH3, hb⟩
  have hc3 := hL3.le
  have hn4 : n3 ≤ 160 := by omega
  have P2 := Lib.hid (P1.out.below hb); have Q2 := Lib.hid (Q1.out.below hb); have B2 := Lib.hid (B1.out.trans (hb.mono B1.out.size))
  have R2 := Lib.hid hL3.pcs; have T3 := Lib.hid hT3; have HC := Lib.hid (over_res HA.out hH3)
  clear hb P1 Q1 B1 hL3 hT3 hH3 hn3
  go_wp2_with fail
  refine (At_any p n cap F U V d _ P2.out (by omega) T1.out.1).mono ?_
  rintro e1 w3 ⟨a1, o1, rfl, hb, h1⟩
  have E1 := Lib.hid (AtRes.same T1.out.1 (HA.out d) h1 (fun x => Iff.rfl))
  have P3 := Lib.hid (P2.out.below hb); have Q3 := Lib.hid (Q2.out.below hb); have R3 := Lib.hid (R2.out.below hb); have B3 := Lib.hid (B2.out.trans (hb.mono B2.out.size))
  clear hb P2 Q2 B2 R2 h1
  go_wp2_with fail
  refine (At_any q m capq G H I d _ Q3.out (by omega) T2.out.1).mono ?_
  rintro e1 w4 ⟨a2, o2, rfl, hb, h2⟩
  have E2 := Lib.hid (AtRes.same T2.out.1 (HB.out d) h2 (fun x => Iff.rfl))
  have P4 := Lib.hid (P3.out.below hb); have Q4 := Lib.hid (Q3.out.below hb); have R4 := Lib.hid (R3.out.below hb); have B4 := Lib.hid (B3.out.trans (hb.mono B3.out.size))
  clear hb P3 Q3 B3 R3 h2
  go_wp2_with fail
  refine (At_any p3 n3 cap3 F3 U3 V3 d _ R4.out (by omega) T3.out.1).mono ?_
  rintro e1 w5 ⟨a3, o3, rfl, hb, h3⟩
  have E3 := Lib.hid (AtRes.same T3.out.1 (HC.out d) h3 (fun x => Iff.rfl))
  have P5 := Lib.hid (P4.out.below hb); have Q5 := Lib.hid (Q4.out.below hb); have R5 := Lib.hid (R4.out.below hb); have B5 := Lib.hid (B4.out.trans (hb.mono B4.out.size))
  clear hb P4 Q4 B4 R4 h3
  cases o2
  · obtain ⟨rfl, rfl⟩ : a3 = a1 ∧ o3 = o1 := by
      refine ⟨?_, ?_⟩
      · rw [E3.out.1, ← E2.out.2, if_neg (by decide)]; exact E1.out.1.symm
      · rw [E3.out.2, ← E2.out.2, E1.out.2]; rfl
    clear E1 E2 E3
    go_wp2_with fail
    refine (over_ok p n cap F U V none 0 0 F U V va oa (fun _ => 0) (fun _ => false) _ P5.out (Or.inl rfl) hcp (Nat.le_refl 0) (by omega) T1.out TNIL.out HA.out NIL.out).mono ?_
    rintro e1 w6 ⟨pu, nu, cu, Fu, Uu, Vu, rfl, hLu, hTu, hnu, hHu, hb⟩
    have SU : Hid (∀ d x, Has nu Fu Uu Vu d x ↔ Has n F U V d x) := fun d x => by
      rw [hHu, (HA.out d).has_iff T1.out.1]; simp
    have hnu2 : nu ≤ 80 := by omega
    have P6 := Lib.hid (P5.out.below hb); have Q6 := Lib.hid (Q5.out.below hb); have R6 := Lib.hid (R5.out.below hb); have B6 := Lib.hid (B5.out.trans (hb.mono B5.out.size)); have U6 := Lib.hid hLu.pcs; have TU := Lib.hid hTu
    clear hb P5 Q5 R5 B5 hLu hTu hHu hnu
    go_wp2_with fail
    refine (over_ok none 0 0 F U V p n cap F U V (fun _ => 0) (fun _ => false) va oa _ (Or.inl rfl) P6.out (Nat.le_refl 0) hcp (by omega) TNIL.out T1.out NIL.out HA.out).mono ?_
    rintro e1 w7 ⟨pv, nv, cv, Fv, Uv, Vv, rfl, hLv, hTv, hnv, hHv, hb⟩
    have SV : Hid (∀ d x, Has nv Fv Uv Vv d x ↔ Has n F U V d x) := fun d x => by
      rw [hHv, (HA.out d).has_iff T1.out.1]; simp
    have hnv2 : nv ≤ 80 := by omega
    have P7 := Lib.hid (P6.out.below hb); have Q7 := Lib.hid (Q6.out.below hb); have R7 := Lib.hid (R6.out.below hb); have B7 := Lib.hid (B6.out.trans (hb.mono B6.out.size)); have U7 := Lib.hid (U6.out.below hb); have V7 := Lib.hid hLv.pcs; have TV := Lib.hid hTv
    clear hb P6 Q6 R6 B6 U6 hLv hTv hHv hnv
    go_wp2_with fail
    refine (changes_ok p n cap F U V p3 n3 cap3 F3 U3 V3 va oa (fun d => if ob d = true then vb d else va d) (fun d => ob d || oa d) _ P7.out R7.out hcp hc3 (by omega) T1.out T3.out HA.out HC.out).mono ?_
    rintro e1 w8 ⟨v, n4, F4, U4, xs, rfl, hown, hsc, hCh, h10, hb⟩
    obtain ⟨ps, cs, rfl, hsp⟩ := spans_in hown hsc
    have OBT : Hid (∀ i, i < n4 → ob (F4 i) = true) := fun i hi => by
      have h := (hCh.2.2 (F4 i)).1 ⟨i, hi, Int.le_refl _, (hCh.1 i hi).2.1⟩
      cases hob : ob (F4 i)
      · exact (h (by simp [hob])).elim
      · rfl
    have P8 := Lib.hid (P7.out.below hb); have Q8 := Lib.hid (Q7.out.below hb); have R8 := Lib.hid (R7.out.below hb); have B8 := Lib.hid (B7.out.trans (hb.mono B7.out.size)); have U8 := Lib.hid (U7.out.below hb); have V8 := Lib.hid (V7.out.below hb); have S8 := Lib.hid hsp
    clear hb P7 Q7 R7 B7 U7 V7 hown hsc hCh hsp
    go_wp2_with fail
    refine (checks_ok p3 n3 cap3 F3 U3 V3 (by omega) T3.out _ R8.out).mono ?_
    rintro e1 w9 ⟨rfl, hb⟩
    have P9 := Lib.hid (P8.out.below hb); have Q9 := Lib.hid (Q8.out.below hb); have B9 := Lib.hid (B8.out.trans (hb.mono B8.out.size)); have U9 := Lib.hid (U8.out.below hb); have V9 := Lib.hid (V8.out.below hb); have S9 := Lib.hid (S8.out.next hb)
    clear hb P8 Q8 R8 B8 U8 V8 S8
    go_wp2_with fail
    refine (Same_any pu p nu cu n cap Fu Uu Vu F U V true _ U9.out P9.out (by omega) (by omega) TU.out T1.out ⟨fun _ => SU.out, fun _ => rfl⟩).mono ?_
    rintro e1 wa ⟨rfl, hb⟩
    have Pa := Lib.hid (P9.out.below hb); have Qa := Lib.hid (Q9.out.below hb); have Ba := Lib.hid (B9.out.trans (hb.mono B9.out.size)); have Va := Lib.hid (V9.out.below hb); have Sa := Lib.hid (S9.out.next hb)
    clear hb P9 Q9 B9 U9 V9 S9
    go_wp2_with fail
    refine (Same_any pv p nv cv n cap Fv Uv Vv F U V true _ Va.out Pa.out (by omega) (by omega) TV.out T1.out ⟨fun _ => SV.out, fun _ => rfl⟩).mono ?_
    rintro e1 wb ⟨rfl, hb⟩
    have Qb := Lib.hid (Qa.out.below hb); have Bb := Lib.hid (Ba.out.trans (hb.mono Ba.out.size)); have Sb := Lib.hid (Sa.out.next hb)
    clear hb Pa Qa Ba Va Sa
    go_wp2_with fail
    go_loopw [121] (fun i wr => ∃ k : Nat, k ≤ n4 ∧ i = .int .i64 k ∧ Below wb.heap.size wb wr) (fun i _ => n4 - (intOf i).toNat)
    case atStart => exact ⟨0, Nat.zero_le _, rfl, Below.refl _ _⟩
    case round =>
      obtain ⟨k, hkn4, rfl, hb⟩ := hrel
      have NB := Lib.hid hb; have Sc := Lib.hid (Sb.out.next hb); have Qc := Lib.hid (Qb.out.below hb)
      clear hb
      by_cases hkn : k < n4
      · obtain ⟨g, rfl, hc⟩ : ∃ g, ps = some ⟨g, 0, none⟩ ∧ ∀ i, i < n4 → wr.cell? ⟨g, i * 2, none⟩ = some (.int .i64 (F4 i)) ∧ wr.cell? ⟨g, i * 2 + 1, none⟩ = some (.int .i64 (U4 i)) := by
          rcases Sc.out with h | h
          · omega
          · exact h
        have c0 := (hc k hkn).1; have c1 := (hc k hkn).2
        have zb := World.block_lt_of_cell? wr _ c0
        have hkd : decide ((k : Int) < (n4 : Int)) = true := by simp; omega
        have hkz : (k : Int) < (n4 : Int) := by omega
        have BX : Hid (Below wr.heap.size wr (wr.alloc (.cells #[.int .i64 (F4 k), .int .i64 (U4 k)] 33))) := (Below.refl _ _).alloc (Nat.le_refl _) _
        clear hc
        go_wp2_with fail
        refine (At_any q m capq G H I (F4 k) _ (Qc.out.below BX.out) (by omega) T2.out.1).mono ?_
        rintro e1 wd ⟨a9, o9, rfl, hb, h9⟩
        obtain rfl : o9 = true := (AtRes.same T2.out.1 (HB.out (F4 k)) h9 (fun x => Iff.rfl)).2.trans (OBT.out k hkn)
        have BD : Hid (Below wb.heap.size wb wd) := NB.out.trans ((BX.out.trans (hb.mono BX.out.size)).mono NB.out.size)
        clear hb h9
        go_wp2_with fail
        go_roundw
        case rel => exact ⟨k + 1, by omega, by go_num, BD.out⟩
        case measure => simp [intOf]; omega
      · have hkd : decide ((k : Int) < (n4 : Int)) = false := by simp; omega
        obtain rfl : k = n4 := by omega
        go_wp2_with fail
        go_ret
        exact ⟨rfl, Bb.out.trans (NB.out.mono Bb.out.size)⟩
  · obtain ⟨rfl, rfl⟩ : a3 = a2 ∧ o3 = true := by
      refine ⟨?_, ?_⟩
      · rw [E3.out.1, ← E2.out.2, if_pos rfl]; exact E2.out.1.symm
      · rw [E3.out.2, ← E2.out.2]; rfl
    clear E1 E2 E3
    go_wp2_with fail
    refine (over_ok p n cap F U V none 0 0 F U V va oa (fun _ => 0) (fun _ => false) _ P5.out (Or.inl rfl) hcp (Nat.le_refl 0) (by omega) T1.out TNIL.out HA.out NIL.out).mono ?_
    rintro e1 w6 ⟨pu, nu, cu, Fu, Uu, Vu, rfl, hLu, hTu, hnu, hHu, hb⟩
    have SU : Hid (∀ d x, Has nu Fu Uu Vu d x ↔ Has n F U V d x) := fun d x => by
      rw [hHu, (HA.out d).has_iff T1.out.1]; simp
    have hnu2 : nu ≤ 80 := by omega
    have P6 := Lib.hid (P5.out.below hb); have Q6 := Lib.hid (Q5.out.below hb); have R6 := Lib.hid (R5.out.below hb); have B6 := Lib.hid (B5.out.trans (hb.mono B5.out.size)); have U6 := Lib.hid hLu.pcs; have TU := Lib.hid hTu
    clear hb P5 Q5 R5 B5 hLu hTu hHu hnu
    go_wp2_with fail
    refine (over_ok none 0 0 F U V p n cap F U V (fun _ => 0) (fun _ => false) va oa _ (Or.inl rfl) P6.out (Nat.le_refl 0) hcp (by omega) TNIL.out T1.out NIL.out HA.out).mono ?_
    rintro e1 w7 ⟨pv, nv, cv, Fv, Uv, Vv, rfl, hLv, hTv, hnv, hHv, hb⟩
    have SV : Hid (∀ d x, Has nv Fv Uv Vv d x ↔ Has n F U V d x) := fun d x => by
      rw [hHv, (HA.out d).has_iff T1.out.1]; simp
    have hnv2 : nv ≤ 80 := by omega
    have P7 := Lib.hid (P6.out.below hb); have Q7 := Lib.hid (Q6.out.below hb); have R7 := Lib.hid (R6.out.below hb); have B7 := Lib.hid (B6.out.trans (hb.mono B6.out.size)); have U7 := Lib.hid (U6.out.below hb); have V7 := Lib.hid hLv.pcs; have TV := Lib.hid hTv
    clear hb P6 Q6 R6 B6 U6 hLv hTv hHv hnv
    go_wp2_with fail
    refine (changes_ok p n cap F U V p3 n3 cap3 F3 U3 V3 va oa (fun d => if ob d = true then vb d else va d) (fun d => ob d || oa d) _ P7.out R7.out hcp hc3 (by omega) T1.out T3.out HA.out HC.out).mono ?_
    rintro e1 w8 ⟨v, n4, F4, U4, xs, rfl, hown, hsc, hCh, h10, hb⟩
    obtain ⟨ps, cs, rfl, hsp⟩ := spans_in hown hsc
    have OBT : Hid (∀ i, i < n4 → ob (F4 i) = true) := fun i hi => by
      have h := (hCh.2.2 (F4 i)).1 ⟨i, hi, Int.le_refl _, (hCh.1 i hi).2.1⟩
      cases hob : ob (F4 i)
      · exact (h (by simp [hob])).elim
      · rfl
    have P8 := Lib.hid (P7.out.below hb); have Q8 := Lib.hid (Q7.out.below hb); have R8 := Lib.hid (R7.out.below hb); have B8 := Lib.hid (B7.out.trans (hb.mono B7.out.size)); have U8 := Lib.hid (U7.out.below hb); have V8 := Lib.hid (V7.out.below hb); have S8 := Lib.hid hsp
    clear hb P7 Q7 R7 B7 U7 V7 hown hsc hCh hsp
    go_wp2_with fail
    refine (checks_ok p3 n3 cap3 F3 U3 V3 (by omega) T3.out _ R8.out).mono ?_
    rintro e1 w9 ⟨rfl, hb⟩
    have P9 := Lib.hid (P8.out.below hb); have Q9 := Lib.hid (Q8.out.below hb); have B9 := Lib.hid (B8.out.trans (hb.mono B8.out.size)); have U9 := Lib.hid (U8.out.below hb); have V9 := Lib.hid (V8.out.below hb); have S9 := Lib.hid (S8.out.next hb)
    clear hb P8 Q8 R8 B8 U8 V8 S8
    go_wp2_with fail
    refine (Same_any pu p nu cu n cap Fu Uu Vu F U V true _ U9.out P9.out (by omega) (by omega) TU.out T1.out ⟨fun _ => SU.out, fun _ => rfl⟩).mono ?_
    rintro e1 wa ⟨rfl, hb⟩
    have Pa := Lib.hid (P9.out.below hb); have Qa := Lib.hid (Q9.out.below hb); have Ba := Lib.hid (B9.out.trans (hb.mono B9.out.size)); have Va := Lib.hid (V9.out.below hb); have Sa := Lib.hid (S9.out.next hb)
    clear hb P9 Q9 B9 U9 V9 S9
    go_wp2_with fail
    refine (Same_any pv p nv cv n cap Fv Uv Vv F U V true _ Va.out Pa.out (by omega) (by omega) TV.out T1.out ⟨fun _ => SV.out, fun _ => rfl⟩).mono ?_
    rintro e1 wb ⟨rfl, hb⟩
    have Qb := Lib.hid (Qa.out.below hb); have Bb := Lib.hid (Ba.out.trans (hb.mono Ba.out.size)); have Sb := Lib.hid (Sa.out.next hb)
    clear hb Pa Qa Ba Va Sa
    go_wp2_with fail
    go_loopw [121] (fun i wr => ∃ k : Nat, k ≤ n4 ∧ i = .int .i64 k ∧ Below wb.heap.size wb wr) (fun i _ => n4 - (intOf i).toNat)
    case atStart => exact ⟨0, Nat.zero_le _, rfl, Below.refl _ _⟩
    case round =>
      obtain ⟨k, hkn4, rfl, hb⟩ := hrel
      have NB := Lib.hid hb; have Sc := Lib.hid (Sb.out.next hb); have Qc := Lib.hid (Qb.out.below hb)
      clear hb
      by_cases hkn : k < n4
      · obtain ⟨g, rfl, hc⟩ : ∃ g, ps = some ⟨g, 0, none⟩ ∧ ∀ i, i < n4 → wr.cell? ⟨g, i * 2, none⟩ = some (.int .i64 (F4 i)) ∧ wr.cell? ⟨g, i * 2 + 1, none⟩ = some (.int .i64 (U4 i)) := by
          rcases Sc.out with h | h
          · omega
          · exact h
        have c0 := (hc k hkn).1; have c1 := (hc k hkn).2
        have zb := World.block_lt_of_cell? wr _ c0
        have hkd : decide ((k : Int) < (n4 : Int)) = true := by simp; omega
        have hkz : (k : Int) < (n4 : Int) := by omega
        have BX : Hid (Below wr.heap.size wr (wr.alloc (.cells #[.int .i64 (F4 k), .int .i64 (U4 k)] 33))) := (Below.refl _ _).alloc (Nat.le_refl _) _
        clear hc
        go_wp2_with fail
        refine (At_any q m capq G H I (F4 k) _ (Qc.out.below BX.out) (by omega) T2.out.1).mono ?_
        rintro e1 wd ⟨a9, o9, rfl, hb, h9⟩
        obtain rfl : o9 = true := (AtRes.same T2.out.1 (HB.out (F4 k)) h9 (fun x => Iff.rfl)).2.trans (OBT.out k hkn)
        have BD : Hid (Below wb.heap.size wb wd) := NB.out.trans ((BX.out.trans (hb.mono BX.out.size)).mono NB.out.size)
        clear hb h9
        go_wp2_with fail
        go_roundw
        case rel => exact ⟨k + 1, by omega, by go_num, BD.out⟩
        case measure => simp [intOf]; omega
      · have hkd : decide ((k : Int) < (n4 : Int)) = false := by simp; omega
        obtain rfl : k = n4 := by omega
        go_wp2_with fail
        go_ret
        exact ⟨rfl, Bb.out.trans (NB.out.mono Bb.out.size)⟩

theorem layers_law (p : Option Addr) (n cap : Nat) (F U V : Nat → Int) (q : Option Addr) (m capq : Nat) (G H I : Nat → Int) (d : Int) (w : World) (hP : PcsAt w p n F U V) (hQ : PcsAt w q m G H I) (hcp : n ≤ cap) (hcq : m ≤ capq) :
    Calls Try.prog 9 #[.slice p n cap, .slice q m capq, .int .i64 d] w fun e w' => e = .returned (.bool true) ∧ Below w.heap.size w w' := by
  by_cases hn : 40 < n ∨ 40 < m
  · exact layers_large p n cap q m capq d w hn
  · obtain ⟨E1, C1, _, h1⟩ := check_both p n cap F U V
    obtain ⟨E2, C2, _, h2⟩ := check_both q m capq G H I
    by_cases z1 : E1 = 0
    · by_cases z2 : E2 = 0
      · exact layers_ok p n cap F U V q m capq G H I d w hP hQ hcp hcq (by omega) (by omega) (ordP_iff.1 (h1.1 z1)).2 (ordP_iff.1 (h2.1 z2)).2
      · exact layers_bad p n cap F U V q m capq G H I d E1 E2 E2 w hP hQ (by omega) (by omega) C1 C2 (Or.inr ⟨z1, z2, rfl⟩)
    · exact layers_bad p n cap F U V q m capq G H I d E1 E2 E1 w hP hQ (by omega) (by omega) C1 C2 (Or.inl ⟨z1, rfl⟩)

set_option maxRecDepth 100000 in
theorem layers_lifted (os : Os) (started : os.Started) (H : Type) (enc : TypeId × Value → H) :
    ReturnsInHanded {} Try.checked os 9 .any (Rows.timelineLayersSpec.pre6 enc Try.prog Try.f9 [] false) (Rows.timelineLayersSpec.post enc Try.prog Try.f9 false true false false) := by
  refine returnsInHanded_of_change (C := Try.checked) own started (by kernel_rfl) Try.func9
    (ChangeSpec.witness6 (enc := enc) (C := Try.checked) false ⟨#[], #[.slice none 0 0, .slice none 0 0, .int .i64 0], []⟩ 8 (by kernel_rfl) (by kernel_rfl) (by kernel_rfl) (by kernel_rfl)) ?_
  intro W base args ds gs before hval0 hW _ _
  have hval : ∀ (j : Nat) t v, Try.f9.params[j]? = some t → args[j]? = some v → Value.okWide Try.prog W .any base t v := hval0
  have hW' := hW
  obtain ⟨p, q, hA0, hV, rfl, hfz, hnd⟩ := hW
  have hA : DataW.TrodAll enc Try.prog W 0 (fun _ => true) true Try.f9.params.toList args.toList ds p := hA0
  rw [Try.params9] at hA hval
  obtain ⟨v0, v1, v2, d0, d1, d2, p0, p1, p2, rfl, rfl, rfl, h0, h1, h2⟩ := trodAll_three hA
  obtain ⟨rfl, rfl⟩ := trodVars_none hV
  obtain ⟨A0, n0, c0, F0, U0, V0, rfl, HG0⟩ := open_pcs (hval 0 22 v0 rfl rfl) h0
  obtain ⟨A1, n1, c1, F1, U1, V1, rfl, HG1⟩ := open_pcs (hval 1 22 v1 rfl rfl) h1
  obtain ⟨x2, rfl, rfl, rfl, wx2⟩ := open_int Try.underlying3 (hval 2 3 v2 rfl rfl) h2
  refine (layers_law A0 n0 c0 F0 U0 V0 A1 n1 c1 F1 U1 V1 x2 W HG0 HG1 (pcs_cap h0) (pcs_cap h1)).mono fun e W' ⟨he, hb⟩ => ?_
  subst he
  exact ⟨_, rfl, post_true rfl rfl (by kernel_rfl) hW' rfl hb⟩

theorem layers_said : Rows.TimelineLayersSaid :=
  OpenClaim.holds_of_wide 9 Try.f9 rfl rfl rfl rfl rfl rfl rfl ⟨rfl, rfl, rfl, rfl, rfl⟩ rfl rfl rfl rfl rfl (by kernel_rfl) Try.func9 (by kernel_rfl)
    (of_decide_eq_true (by kernel_rfl)) (by unfold Func.isWrapper; first | (rw [if_pos (by decide +kernel)]; kernel_rfl) | (rw [if_neg (by decide +kernel)]; exact ⟨rfl, rfl⟩))
    (fun os started H enc _ => layers_lifted os started H enc)
#print axioms layers_said

end Go.Proofs.Ytcgjhbjbfdbfaaa
