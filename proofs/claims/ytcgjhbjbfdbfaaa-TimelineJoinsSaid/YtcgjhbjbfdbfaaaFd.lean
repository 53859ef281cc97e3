/-
  What First and Days answer, in package timeline and in its reference; and that Check answers one thing in both. No statement of the seat is proved here.
-/
import Derived.Test.YtcgjhbjbfdbfaaaCk
namespace Go.Proofs.Ytcgjhbjbfdbfaaa
open Go.RowKit

theorem ret_ib {a b : Int} {c : Bool} (h : a = b) : Ending.returned (.tuple #[.int .i64 a, .bool c]) = .returned (.tuple #[.int .i64 b, .bool c]) := by rw [h]
theorem first_bad (P : Nat → Prop) : ∀ n : Nat, ∃ m, m ≤ n ∧ (∀ i, i < m → P i) ∧ (m = n ∨ ¬ P m) := by
  intro n
  induction n with
  | zero => exact ⟨0, Nat.le_refl _, fun i hi => absurd hi (by omega), Or.inl rfl⟩
  | succ n ih =>
    obtain ⟨m, h1, h2, h3⟩ := ih
    rcases h3 with h3 | h3
    · subst h3
      rcases Classical.em (P m) with h | h
      · exact ⟨m + 1, Nat.le_refl _, fun i hi => by
          rcases (show i < m ∨ i = m by omega) with k | k
          · exact h2 i k
          · subst k; exact h, Or.inl rfl⟩
      · exact ⟨m, by omega, h2, Or.inr h⟩
    · exact ⟨m, by omega, h2, Or.inr h3⟩

/-- A list is in order. -/
def ordP (n : Nat) (F U V : Nat → Int) : Prop := (n : Int) ≤ 1024 ∧ ∀ i, i < n → ckAt F U V i = 0
theorem ord_spn {F U V : Nat → Int} {i : Nat} (h : ckAt F U V i = 0) : spn (F i) (U i) := by
  apply Classical.byContradiction
  intro g
  rw [show ckAt F U V i = 2 from if_pos g] at h
  omega

/-- Check in the code and in the reference. -/
theorem check_both (p : Option Addr) (n cap : Nat) (F U V : Nat → Int) : ∃ E : Int,
    (∀ w, PcsAt w p n F U V → Calls Try.prog 16 #[.slice p n cap] w fun e w' => e = .returned (.int .i64 E) ∧ Below w.heap.size w w') ∧
    (∀ w, PcsAt w p n F U V → Calls Try.prog 17 #[.slice p n cap] w fun e w' => e = .returned (.int .i64 E) ∧ Below w.heap.size w w') ∧ (E = 0 ↔ ordP n F U V) := by
  by_cases h1 : 1024 < (n : Int)
  · exact ⟨8, fun w _ => Check_large p n cap w h1, fun w _ => refCheck_large p n cap w h1, by unfold ordP; omega⟩
  obtain ⟨m, m1, m2, m3⟩ := first_bad (fun i => ckAt F U V i = 0) n
  rcases (show m = n ∨ m < n by omega) with h | h
  · refine ⟨0, fun w hd => Check_loop p n cap m F U V w hd (by omega) m1 m2 0 (Or.inl ⟨h, rfl⟩), fun w hd => refCheck_loop p n cap m F U V w hd (by omega) m1 m2 0 (Or.inl ⟨h, rfl⟩), ?_⟩
    subst h
    exact ⟨fun _ => ⟨by omega, m2⟩, fun _ => rfl⟩
  · have hb : ckAt F U V m ≠ 0 := m3.resolve_left (by omega)
    refine ⟨ckAt F U V m, fun w hd => Check_loop p n cap m F U V w hd (by omega) m1 m2 _ (Or.inr ⟨h, hb, rfl⟩), fun w hd => refCheck_loop p n cap m F U V w hd (by omega) m1 m2 _ (Or.inr ⟨h, hb, rfl⟩), ?_⟩
    exact ⟨fun e => absurd e hb, fun e => e.2 m h⟩

set_option maxHeartbeats 2000000 in
theorem First_bad (p : Option Addr) (n cap : Nat) (F U V : Nat → Int) (fr v E : Int) (w : World) (hP : PcsAt w p n F U V) (hE : E ≠ 0)
    (C : ∀ w, PcsAt w p n F U V → Calls Try.prog 16 #[.slice p n cap] w fun e w' => e = .returned (.int .i64 E) ∧ Below w.heap.size w w') :
    Calls Try.prog 14 #[.slice p n cap, .int .i64 fr, .int .i64 v] w fun e w' => e = .returned (.tuple #[.int .i64 0, .bool false]) ∧ Below w.heap.size w w' := by
  have HP := Lib.hid hP; have D := Lib.hid C
  have e : (E != 0) = true := by simpa using hE
  clear hP C hE
  go_enter Try.func14, Try.ntmps14
  go_wp2_with fail
  refine (D.out _ HP.out).mono ?_
  rintro e w' ⟨rfl, hb⟩
  go_wp2
  go_ret2
  exact ⟨rfl, hb⟩

set_option maxHeartbeats 2000000 in
theorem refFirst_bad (p : Option Addr) (n cap : Nat) (F U V : Nat → Int) (fr v E : Int) (w : World) (hP : PcsAt w p n F U V) (hE : E ≠ 0)
    (C : ∀ w, PcsAt w p n F U V → Calls Try.prog 17 #[.slice p n cap] w fun e w' => e = .returned (.int .i64 E) ∧ Below w.heap.size w w') :
    Calls Try.prog 15 #[.slice p n cap, .int .i64 fr, .int .i64 v] w fun e w' => e = .returned (.tuple #[.int .i64 0, .bool false]) ∧ Below w.heap.size w w' := by
  have HP := Lib.hid hP; have D := Lib.hid C
  have e : (E != 0) = true := by simpa using hE
  clear hP C hE
  go_enter Try.func15, Try.ntmps15
  go_wp2_with fail
  refine (D.out _ HP.out).mono ?_
  rintro e w' ⟨rfl, hb⟩
  go_wp2
  go_ret2
  exact ⟨rfl, hb⟩

set_option maxHeartbeats 2000000 in
theorem Days_bad (p : Option Addr) (n cap : Nat) (F U V : Nat → Int) (v E : Int) (w : World) (hP : PcsAt w p n F U V) (hE : E ≠ 0)
    (C : ∀ w, PcsAt w p n F U V → Calls Try.prog 16 #[.slice p n cap] w fun e w' => e = .returned (.int .i64 E) ∧ Below w.heap.size w w') :
    Calls Try.prog 18 #[.slice p n cap, .int .i64 v] w fun e w' => e = .returned (.int .i64 0) ∧ Below w.heap.size w w' := by
  have HP := Lib.hid hP; have D := Lib.hid C
  have e : (E != 0) = true := by simpa using hE
  clear hP C hE
  go_enter Try.func18, Try.ntmps18
  go_wp2_with fail
  refine (D.out _ HP.out).mono ?_
  rintro e w' ⟨rfl, hb⟩
  go_wp2
  go_ret
  exact ⟨rfl, hb⟩

set_option maxHeartbeats 2000000 in
theorem refDays_bad (p : Option Addr) (n cap : Nat) (F U V : Nat → Int) (v E : Int) (w : World) (hP : PcsAt w p n F U V) (hE : E ≠ 0)
    (C : ∀ w, PcsAt w p n F U V → Calls Try.prog 17 #[.slice p n cap] w fun e w' => e = .returned (.int .i64 E) ∧ Below w.heap.size w w') :
    Calls Try.prog 19 #[.slice p n cap, .int .i64 v] w fun e w' => e = .returned (.int .i64 0) ∧ Below w.heap.size w w' := by
  have HP := Lib.hid hP; have D := Lib.hid C
  have e : (E != 0) = true := by simpa using hE
  clear hP C hE
  go_enter Try.func19, Try.ntmps19
  go_wp2_with fail
  refine (D.out _ HP.out).mono ?_
  rintro e w' ⟨rfl, hb⟩
  go_wp2
  go_ret
  exact ⟨rfl, hb⟩

set_option maxRecDepth 100000 in
set_option maxHeartbeats 4000000 in
theorem First_loop (p : Option Addr) (n cap m : Nat) (F U V : Nat → Int) (fr v : Int) (w : World) (hP : PcsAt w p n F U V) (hn : (n : Int) ≤ 1024) (hm : m ≤ n)
    (C : ∀ w, PcsAt w p n F U V → Calls Try.prog 16 #[.slice p n cap] w fun e w' => e = .returned (.int .i64 0) ∧ Below w.heap.size w w')
    (hv : ∀ i : Nat, i < m → ¬ (V i = v ∧ fr < U i)) (A : Int) (O : Bool) (hr : (m = n ∧ A = 0 ∧ O = false) ∨ (m < n ∧ (V m = v ∧ fr < U m) ∧ A = (if fr < F m then F m else fr) ∧ O = true)) :
    Calls Try.prog 14 #[.slice p n cap, .int .i64 fr, .int .i64 v] w fun e w' => e = .returned (.tuple #[.int .i64 A, .bool O]) ∧ Below w.heap.size w w' := by
  have HP := Lib.hid hP; have HV := Lib.hid hv; have HR := Lib.hid hr; have D := Lib.hid C
  clear hP hv hr C
  go_enter Try.func14, Try.ntmps14
  go_wp2_with fail
  refine (D.out _ HP.out).mono ?_
  rintro e w1 ⟨rfl, hb1⟩
  have B1 := Lib.hid hb1
  clear hb1
  go_wp2_with fail
  go_loopw [15] (fun i wr => ∃ k : Nat, k ≤ m ∧ i = .int .i64 k ∧ Below w.heap.size w wr) (fun i _ => n - (intOf i).toNat)
  case atStart => exact ⟨0, Nat.zero_le _, rfl, B1.out⟩
  case round =>
    obtain ⟨k, hk, rfl, hb⟩ := hrel
    have NB := Lib.hid hb
    have zw := hb.size
    by_cases hkn : k < n
    · obtain ⟨blk, off, rfl, hpc⟩ := HP.out.get hkn
      have PW := Lib.hid (hpc.below hb hpc.lt)
      have hkd : decide ((k : Int) < (n : Int)) = true := by simp; omega
      have q0 := PW.out.1; have q1 := PW.out.2.1; have q2 := PW.out.2.2
      have zb := PW.out.lt
      clear hb hpc
      by_cases h1 : V k = v
      · have e1 : (V k == v) = true := bool_eq h1
        by_cases h2 : fr < U k
        · have hE : A = (if fr < F k then F k else fr) ∧ O = true := by
            rcases HR.out with h | h
            · exact absurd ⟨h1, h2⟩ (HV.out k (by omega))
            · rcases (show k < m ∨ k = m by omega) with g | g
              · exact absurd ⟨h1, h2⟩ (HV.out k g)
              · subst g; exact h.2.2
          obtain ⟨hA, rfl⟩ := hE
          have HA := Lib.hid hA
          have H1 := Lib.hid h1
          clear hA h1
          by_cases h3 : fr < F k
          · have hA' : A = F k := by rw [HA.out, if_pos h3]
            have HA' := Lib.hid hA'
            clear hA'
            go_wp2
            all_goals
              go_ret2
              exact ⟨ret_ib (by have := HA'.out; omega), by have := NB.out; go_grown⟩
          · have hA' : A = fr := by rw [HA.out, if_neg h3]
            have HA' := Lib.hid hA'
            have h3' : F k ≤ fr := by omega
            clear hA' h3
            go_wp2
            all_goals
              go_ret2
              exact ⟨ret_ib (by have := HA'.out; omega), by have := NB.out; go_grown⟩
        · have h2' : U k ≤ fr := by omega
          have hkm : k < m := by
            rcases HR.out with h | h
            · omega
            · rcases (show k < m ∨ k = m by omega) with g | g
              · exact g
              · subst g; exact absurd h.2.1.2 h2
          have H1 := Lib.hid h1
          clear h1 h2
          go_wp2
          go_roundw
          case rel => exact ⟨k + 1, by omega, by go_num, by have := NB.out; go_grown⟩
          case measure => simp [intOf]; omega
      · have e1 : (V k == v) = false := bool_ne h1
        have hkm : k < m := by
          rcases HR.out with h | h
          · omega
          · rcases (show k < m ∨ k = m by omega) with g | g
            · exact g
            · subst g; exact absurd h.2.1.1 h1
        clear h1
        go_wp2
        go_roundw
        case rel => exact ⟨k + 1, by omega, by go_num, by have := NB.out; go_grown⟩
        case measure => simp [intOf]; omega
    · have hkd : decide ((k : Int) < (n : Int)) = false := by simp; omega
      have hE : A = 0 ∧ O = false := by
        rcases HR.out with h | h
        · exact h.2
        · omega
      obtain ⟨rfl, rfl⟩ := hE
      clear hb
      go_wp2
      go_ret2
      exact ⟨rfl, NB.out⟩

set_option maxRecDepth 100000 in
set_option maxHeartbeats 4000000 in
theorem refFirst_loop (p : Option Addr) (n cap m : Nat) (F U V : Nat → Int) (fr v : Int) (w : World) (hP : PcsAt w p n F U V) (hn : (n : Int) ≤ 1024) (hm : m ≤ n)
    (C : ∀ w, PcsAt w p n F U V → Calls Try.prog 17 #[.slice p n cap] w fun e w' => e = .returned (.int .i64 0) ∧ Below w.heap.size w w')
    (hv : ∀ i : Nat, i < m → ¬ (V i = v ∧ fr < U i)) (A : Int) (O : Bool) (hr : (m = n ∧ A = 0 ∧ O = false) ∨ (m < n ∧ (V m = v ∧ fr < U m) ∧ A = (if fr < F m then F m else fr) ∧ O = true)) :
    Calls Try.prog 15 #[.slice p n cap, .int .i64 fr, .int .i64 v] w fun e w' => e = .returned (.tuple #[.int .i64 A, .bool O]) ∧ Below w.heap.size w w' := by
  have HP := Lib.hid hP; have HV := Lib.hid hv; have HR := Lib.hid hr; have D := Lib.hid C
  clear hP hv hr C
  go_enter Try.func15, Try.ntmps15
  go_wp2_with fail
  refine (D.out _ HP.out).mono ?_
  rintro e w1 ⟨rfl, hb1⟩
  have B1 := Lib.hid hb1
  clear hb1
  go_wp2_with fail
  go_loopw [8] (fun i wr => ∃ k : Nat, k ≤ m ∧ i = .int .i64 k ∧ Below w.heap.size w wr) (fun i _ => n - (intOf i).toNat)
  case atStart => exact ⟨0, Nat.zero_le _, rfl, B1.out⟩
  case round =>
    obtain ⟨k, hk, rfl, hb⟩ := hrel
    have NB := Lib.hid hb
    have zw := hb.size
    by_cases hkn : k < n
    · obtain ⟨blk, off, rfl, hpc⟩ := HP.out.get hkn
      have PW := Lib.hid (hpc.below hb hpc.lt)
      have hkd : decide ((k : Int) < (n : Int)) = true := by simp; omega
      have q0 := PW.out.1; have q1 := PW.out.2.1; have q2 := PW.out.2.2
      have zb := PW.out.lt
      clear hb hpc
      by_cases h1 : V k = v
      · have e1 : (V k == v) = true := bool_eq h1
        by_cases h2 : fr < U k
        · have hE : A = (if fr < F k then F k else fr) ∧ O = true := by
            rcases HR.out with h | h
            · exact absurd ⟨h1, h2⟩ (HV.out k (by omega))
            · rcases (show k < m ∨ k = m by omega) with g | g
              · exact absurd ⟨h1, h2⟩ (HV.out k g)
              · subst g; exact h.2.2
          obtain ⟨hA, rfl⟩ := hE
          have HA := Lib.hid hA
          have H1 := Lib.hid h1
          clear hA h1
          by_cases h3 : fr < F k
          · have hA' : A = F k := by rw [HA.out, if_pos h3]
            have HA' := Lib.hid hA'
            clear hA'
            go_wp2
            all_goals
              go_ret2
              exact ⟨ret_ib (by have := HA'.out; omega), by have := NB.out; go_grown⟩
          · have hA' : A = fr := by rw [HA.out, if_neg h3]
            have HA' := Lib.hid hA'
            have h3' : F k ≤ fr := by omega
            clear hA' h3
            go_wp2
            all_goals
              go_ret2
              exact ⟨ret_ib (by have := HA'.out; omega), by have := NB.out; go_grown⟩
        · have h2' : U k ≤ fr := by omega
          have hkm : k < m := by
            rcases HR.out with h | h
            · omega
            · rcases (show k < m ∨ k = m by omega) with g | g
              · exact g
              · subst g; exact absurd h.2.1.2 h2
          have H1 := Lib.hid h1
          clear h1 h2
          go_wp2
          go_roundw
          case rel => exact ⟨k + 1, by omega, by go_num, by have := NB.out; go_grown⟩
          case measure => simp [intOf]; omega
      · have e1 : (V k == v) = false := bool_ne h1
        have hkm : k < m := by
          rcases HR.out with h | h
          · omega
          · rcases (show k < m ∨ k = m by omega) with g | g
            · exact g
            · subst g; exact absurd h.2.1.1 h1
        clear h1
        go_wp2
        go_roundw
        case rel => exact ⟨k + 1, by omega, by go_num, by have := NB.out; go_grown⟩
        case measure => simp [intOf]; omega
    · have hkd : decide ((k : Int) < (n : Int)) = false := by simp; omega
      have hE : A = 0 ∧ O = false := by
        rcases HR.out with h | h
        · exact h.2
        · omega
      obtain ⟨rfl, rfl⟩ := hE
      clear hb
      go_wp2
      go_ret2
      exact ⟨rfl, NB.out⟩

/-- On how many days the first k pieces have a value. -/
def dys (F U V : Nat → Int) (v : Int) : Nat → Int
  | 0 => 0
  | k + 1 => dys F U V v k + (if V k = v then U k - F k else 0)
theorem dys_bd {F U V : Nat → Int} {v : Int} : ∀ n : Nat, (∀ i, i < n → spn (F i) (U i)) → 0 ≤ dys F U V v n ∧ dys F U V v n ≤ n * 1048576 := by
  intro n
  induction n with
  | zero => intro _; exact ⟨Int.le_refl _, by simp [dys]⟩
  | succ n ih =>
    intro h
    have a := ih (fun i hi => h i (by omega))
    have b := h n (by omega)
    show 0 ≤ dys F U V v n + (if V n = v then U n - F n else 0) ∧ dys F U V v n + (if V n = v then U n - F n else 0) ≤ ((n + 1 : Nat) : Int) * 1048576
    split <;> omega

set_option maxRecDepth 100000 in
set_option maxHeartbeats 4000000 in
theorem Days_loop (p : Option Addr) (n cap : Nat) (F U V : Nat → Int) (v : Int) (w : World) (hP : PcsAt w p n F U V) (hO : ordP n F U V)
    (C : ∀ w, PcsAt w p n F U V → Calls Try.prog 16 #[.slice p n cap] w fun e w' => e = .returned (.int .i64 0) ∧ Below w.heap.size w w') :
    Calls Try.prog 18 #[.slice p n cap, .int .i64 v] w fun e w' => e = .returned (.int .i64 (dys F U V v n)) ∧ Below w.heap.size w w' := by
  have hs : ∀ i, i < n → spn (F i) (U i) := fun i hi => ord_spn (hO.2 i hi)
  have hn := hO.1
  have HP := Lib.hid hP; have HS := Lib.hid hs; have D := Lib.hid C
  clear hP hs C hO
  go_enter Try.func18, Try.ntmps18
  go_wp2_with fail
  refine (D.out _ HP.out).mono ?_
  rintro e w1 ⟨rfl, hb1⟩
  have B1 := Lib.hid hb1
  clear hb1
  go_wp2_with fail
  go_loopw [5, 13] (fun s i wr => ∃ k : Nat, k ≤ n ∧ i = .int .i64 k ∧ s = .int .i64 (dys F U V v k) ∧ Below w.heap.size w wr) (fun _ i _ => n - (intOf i).toNat)
  case atStart => exact ⟨0, Nat.zero_le _, rfl, rfl, B1.out⟩
  case round =>
    obtain ⟨k, hk, rfl, rfl, hb⟩ := hrel
    have NB := Lib.hid hb
    have zw := hb.size
    have bd := dys_bd (V := V) (v := v) k (fun i hi => HS.out i (by omega))
    by_cases hkn : k < n
    · obtain ⟨blk, off, rfl, hpc⟩ := HP.out.get hkn
      have PW := Lib.hid (hpc.below hb hpc.lt)
      have hkd : decide ((k : Int) < (n : Int)) = true := by simp; omega
      have q0 := PW.out.1; have q1 := PW.out.2.1; have q2 := PW.out.2.2
      have zb := PW.out.lt
      have sp := HS.out k hkn
      have DS : Hid (dys F U V v (k + 1) = dys F U V v k + (if V k = v then U k - F k else 0)) := rfl
      obtain ⟨S, hS⟩ : ∃ S, S = dys F U V v k := ⟨_, rfl⟩
      rw [← hS] at bd DS ⊢
      obtain ⟨sp1, sp2, sp3⟩ := sp
      obtain ⟨bd1, bd2⟩ := bd
      clear hb hpc hS
      by_cases h1 : V k = v
      · have e1 : (V k == v) = true := bool_eq h1
        have H1 := Lib.hid h1
        clear h1
        go_wp2_with fail
        go_wp2_with fail
        go_roundw
        case rel =>
          refine ⟨k + 1, by omega, by go_num, ?_, by first | exact below_drewN NB.out _ | (have := NB.out; go_grown)⟩
          first | (rw [DS.out, if_pos H1.out]; done) | (rw [DS.out, if_pos H1.out]; exact congrArg (Value.int .i64) (by omega))
        case measure => simp [intOf]; omega
      · have e1 : (V k == v) = false := bool_ne h1
        have H1 := Lib.hid h1
        clear h1
        go_wp2
        go_roundw
        case rel =>
          refine ⟨k + 1, by omega, by go_num, ?_, by have := NB.out; go_grown⟩
          first | (rw [DS.out, if_neg H1.out]; done) | (rw [DS.out, if_neg H1.out]; exact congrArg (Value.int .i64) (by omega))
        case measure => simp [intOf]; omega
    · have hkd : decide ((k : Int) < (n : Int)) = false := by simp; omega
      have ek := Lib.hid (show k = n by omega)
      clear hb
      go_wp2
      go_ret
      refine ⟨?_, NB.out⟩
      rw [ek.out]
      rfl

set_option maxRecDepth 100000 in
set_option maxHeartbeats 4000000 in
theorem refDays_loop (p : Option Addr) (n cap : Nat) (F U V : Nat → Int) (v : Int) (w : World) (hP : PcsAt w p n F U V) (hO : ordP n F U V)
    (C : ∀ w, PcsAt w p n F U V → Calls Try.prog 17 #[.slice p n cap] w fun e w' => e = .returned (.int .i64 0) ∧ Below w.heap.size w w') :
    Calls Try.prog 19 #[.slice p n cap, .int .i64 v] w fun e w' => e = .returned (.int .i64 (dys F U V v n)) ∧ Below w.heap.size w w' := by
  have hs : ∀ i, i < n → spn (F i) (U i) := fun i hi => ord_spn (hO.2 i hi)
  have hn := hO.1
  have HP := Lib.hid hP; have HS := Lib.hid hs; have D := Lib.hid C
  clear hP hs C hO
  go_enter Try.func19, Try.ntmps19
  go_wp2_with fail
  refine (D.out _ HP.out).mono ?_
  rintro e w1 ⟨rfl, hb1⟩
  have B1 := Lib.hid hb1
  clear hb1
  go_wp2_with fail
  go_loopw [5, 6] (fun s i wr => ∃ k : Nat, k ≤ n ∧ i = .int .i64 k ∧ s = .int .i64 (dys F U V v k) ∧ Below w.heap.size w wr) (fun _ i _ => n - (intOf i).toNat)
  case atStart => exact ⟨0, Nat.zero_le _, rfl, rfl, B1.out⟩
  case round =>
    obtain ⟨k, hk, rfl, rfl, hb⟩ := hrel
    have NB := Lib.hid hb
    have zw := hb.size
    have bd := dys_bd (V := V) (v := v) k (fun i hi => HS.out i (by omega))
    by_cases hkn : k < n
    · obtain ⟨blk, off, rfl, hpc⟩ := HP.out.get hkn
      have PW := Lib.hid (hpc.below hb hpc.lt)
      have hkd : decide ((k : Int) < (n : Int)) = true := by simp; omega
      have q0 := PW.out.1; have q1 := PW.out.2.1; have q2 := PW.out.2.2
      have zb := PW.out.lt
      have sp := HS.out k hkn
      have DS : Hid (dys F U V v (k + 1) = dys F U V v k + (if V k = v then U k - F k else 0)) := rfl
      obtain ⟨S, hS⟩ : ∃ S, S = dys F U V v k := ⟨_, rfl⟩
      rw [← hS] at bd DS ⊢
      obtain ⟨sp1, sp2, sp3⟩ := sp
      obtain ⟨bd1, bd2⟩ := bd
      clear hb hpc hS
      by_cases h1 : V k = v
      · have e1 : (V k == v) = true := bool_eq h1
        have H1 := Lib.hid h1
        clear h1
        go_wp2_with fail
        go_quiet (fail)
        go_wp2_with fail
        go_roundw
        case rel =>
          refine ⟨k + 1, by omega, by go_num, ?_, by first | exact below_drewN NB.out _ | (have := NB.out; go_grown)⟩
          first | (rw [DS.out, if_pos H1.out]; done) | (rw [DS.out, if_pos H1.out]; exact congrArg (Value.int .i64) (by omega))
        case measure => simp [intOf]; omega
      · have e1 : (V k == v) = false := bool_ne h1
        have H1 := Lib.hid h1
        clear h1
        go_wp2
        go_roundw
        case rel =>
          refine ⟨k + 1, by omega, by go_num, ?_, by have := NB.out; go_grown⟩
          first | (rw [DS.out, if_neg H1.out]; done) | (rw [DS.out, if_neg H1.out]; exact congrArg (Value.int .i64) (by omega))
        case measure => simp [intOf]; omega
    · have hkd : decide ((k : Int) < (n : Int)) = false := by simp; omega
      have ek := Lib.hid (show k = n by omega)
      clear hb
      go_wp2
      go_ret
      refine ⟨?_, NB.out⟩
      rw [ek.out]
      rfl

end Go.Proofs.Ytcgjhbjbfdbfaaa
