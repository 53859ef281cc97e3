/-
  What Check answers, in package timeline and in its reference. No statement of the seat is proved here.
-/
import Derived.Test.YtcgjhbjbfdbfaaaAt
import Derived.Deep.RegionHeld3
import Derived.Deep.CutRange
namespace Go.Proofs.Ytcgjhbjbfdbfaaa
open Go.RowKit

/-- A piece does not follow the one before it. -/
abbrev badP (F U V : Nat → Int) (i : Nat) : Prop := 0 < i ∧ (F i < U (i - 1) ∨ (U (i - 1) = F i ∧ V (i - 1) = V i))
/-- What is wrong with a piece at its place: 2, 5, or nothing. -/
def ckAt (F U V : Nat → Int) (i : Nat) : Int := if ¬ spn (F i) (U i) then 2 else if badP F U V i then 5 else 0

theorem continues_ex (f u v f' u' v' : Int) (w : World) :
    Calls Try.prog 33 #[.agg #[.int .i64 f, .int .i64 u, .int .i64 v], .agg #[.int .i64 f', .int .i64 u', .int .i64 v']] w fun e w' => e = .returned (.bool (decide (u = f' ∧ v = v'))) ∧
      w' = (w.alloc (.cells #[.int .i64 f, .int .i64 u, .int .i64 v] 47)).alloc (.cells #[.int .i64 f', .int .i64 u', .int .i64 v'] 47) := by
  by_cases h : u = f'
  · have e : (u == f') = true := bool_eq h
    have H := Lib.hid h
    clear h
    go_enter Try.func33, Try.ntmps33
    go_wp2
    go_ret
    refine ⟨ret_bool ?_, rfl⟩
    have := H.out
    first | rfl | (symm; exact decide_eq_false (by omega)) | (symm; exact decide_eq_true (by omega)) | (rw [decide_eq_decide]; omega) | (rw [Bool.eq_iff_iff]; simp; omega)
  · have e : (u == f') = false := bool_ne h
    have H := Lib.hid h
    clear h
    go_enter Try.func33, Try.ntmps33
    go_wp2
    go_ret
    refine ⟨ret_bool ?_, rfl⟩
    have := H.out
    first | rfl | (symm; exact decide_eq_false (by omega)) | (symm; exact decide_eq_true (by omega)) | (rw [decide_eq_decide]; omega) | (rw [Bool.eq_iff_iff]; simp; omega)

theorem Check_large (p : Option Addr) (n cap : Nat) (w : World) (h : 1024 < (n : Int)) :
    Calls Try.prog 16 #[.slice p n cap] w fun e w' => e = .returned (.int .i64 8) ∧ Below w.heap.size w w' := by
  go_enter Try.func16, Try.ntmps16
  go_wp2
  go_ret
  exact ⟨rfl, by go_grown⟩
theorem refCheck_large (p : Option Addr) (n cap : Nat) (w : World) (h : 1024 < (n : Int)) :
    Calls Try.prog 17 #[.slice p n cap] w fun e w' => e = .returned (.int .i64 8) ∧ Below w.heap.size w w' := by
  go_enter Try.func17, Try.ntmps17
  go_wp2
  go_ret
  exact ⟨rfl, by go_grown⟩

set_option maxRecDepth 100000 in
set_option maxHeartbeats 4000000 in
/-- The pieces up to number m are in order; m is the end, or the first that is not. -/
theorem Check_loop (p : Option Addr) (n cap m : Nat) (F U V : Nat → Int) (w : World) (hP : PcsAt w p n F U V) (hn : (n : Int) ≤ 1024) (hm : m ≤ n)
    (hv : ∀ i : Nat, i < m → ckAt F U V i = 0) (E : Int) (hr : (m = n ∧ E = 0) ∨ (m < n ∧ ckAt F U V m ≠ 0 ∧ E = ckAt F U V m)) :
    Calls Try.prog 16 #[.slice p n cap] w fun e w' => e = .returned (.int .i64 E) ∧ Below w.heap.size w w' := by
  have HP := Lib.hid hP; have HV := Lib.hid hv; have HR := Lib.hid hr
  clear hP hv hr
  go_enter Try.func16, Try.ntmps16
  go_wp2
  go_loopw [10] (fun i wr => ∃ k : Nat, k ≤ m ∧ i = .int .i64 k ∧ Below w.heap.size w wr) (fun i _ => n - (intOf i).toNat)
  case atStart => exact ⟨0, Nat.zero_le _, rfl, by go_grown⟩
  case round =>
    obtain ⟨k, hk, rfl, hb⟩ := hrel
    have NB := Lib.hid hb
    by_cases hkn : k < n
    · obtain ⟨blk, off, rfl, hpc⟩ := HP.out.get hkn
      have PW := Lib.hid (hpc.below hb hpc.lt)
      have hkd : decide ((k : Int) < (n : Int)) = true := by simp; omega
      have q0 := PW.out.1; have q1 := PW.out.2.1; have q2 := PW.out.2.2
      have zb := PW.out.lt
      have CK : Hid ((k < m ∧ ckAt F U V k = 0) ∨ (k = m ∧ ckAt F U V k ≠ 0 ∧ E = ckAt F U V k)) := by
        rcases HR.out with h | h
        · exact Or.inl ⟨by omega, HV.out k (by omega)⟩
        · rcases (show k < m ∨ k = m by omega) with g | g
          · exact Or.inl ⟨g, HV.out k g⟩
          · subst g; exact Or.inr ⟨rfl, h.2⟩
      clear hb hpc
      by_cases hs : spn (F k) (U k)
      case neg =>
        have e : decide (spn (F k) (U k)) = false := decide_eq_false hs
        have hE : E = 2 := by
          have c : ckAt F U V k = 2 := if_pos hs
          rcases CK.out with ⟨_, h⟩ | ⟨_, _, h⟩
          · omega
          · omega
        subst hE
        clear hs
        go_wp2_with fail
        refine (isSpan_any _ _ _).mono ?_
        rintro e w' ⟨rfl, hb⟩
        have MB : Hid (Below w.heap.size w w') := (NB.out.alloc NB.out.size _).trans (hb.mono (by have := NB.out.size; simp; omega))
        clear hb
        rw [e]
        go_wp2
        go_ret
        exact ⟨rfl, MB.out⟩
      have e : decide (spn (F k) (U k)) = true := decide_eq_true hs
      have HS := Lib.hid hs
      clear hs
      go_wp2_with fail
      refine (isSpan_any _ _ _).mono ?_
      rintro e w' ⟨rfl, hb⟩
      have MB : Hid (Below w.heap.size w w') := (NB.out.alloc NB.out.size _).trans (hb.mono (by have := NB.out.size; simp; omega))
      have MP := Lib.hid ((Pc.new wr (F k) (U k) (V k) 47).next hb)
      clear hb q0 q1 q2 zb
      rw [e]
      have q0 := MP.out.1; have q1 := MP.out.2.1; have q2 := MP.out.2.2
      simp only [Nat.zero_add] at q1 q2
      have zb := MP.out.lt
      go_wp2_with fail
      go_cut [42, 10] from 10 to 43 (fun r i wx => r = .bool (decide (badP F U V k)) ∧ i = .int .i64 k ∧ Below w.heap.size w wx)
      case first =>
        rcases Nat.eq_zero_or_pos k with k0 | k0
        · have hbad := Lib.hid (show ¬ badP F U V k by omega)
          subst k0
          go_quiet (fail)
          go_wp2_with fail
          go_meet
          exact ⟨by rw [decide_eq_false hbad.out], rfl, below_drewN MB.out nq⟩
        · have hpc' : Pc w blk (off + (k - 1) * 3) (F (k - 1)) (U (k - 1)) (V (k - 1)) := by
            obtain ⟨b2, o2, h2, h3⟩ := HP.out.get (show k - 1 < n by omega)
            cases h2
            exact h3
          have PP := Lib.hid (hpc'.below MB.out hpc'.lt)
          have p0 := PP.out.1; have p1 := PP.out.2.1; have p2 := PP.out.2.2
          have zp := PP.out.lt
          clear hpc'
          have hkz : decide (0 < (k : Int)) = true := by simp; omega
          have hk1 : (0 : Int) ≤ (k : Int) - 1 := by omega
          have hk2 : (k : Int) - 1 < (n : Int) := by omega
          have hk3 : ((k : Int) - 1).toNat = k - 1 := by omega
          by_cases hlt : F k < U (k - 1)
          · have hbad := Lib.hid (show badP F U V k from ⟨k0, Or.inl hlt⟩)
            go_quiet (fail)
            go_wp2_with fail
            go_meet
            exact ⟨by rw [decide_eq_true hbad.out], rfl, below_drewN MB.out nq⟩
          · have hlt' : decide (F k < U (k - 1)) = false := decide_eq_false hlt
            have hbad : Hid (decide (badP F U V k) = decide (U (k - 1) = F k ∧ V (k - 1) = V k)) := by
              show decide (badP F U V k) = decide (U (k - 1) = F k ∧ V (k - 1) = V k)
              rw [decide_eq_decide]
              omega
            have HL := Lib.hid hlt
            clear hlt
            have hk5 : k ≤ n := by omega
            have hk6 : 1 ≤ k := by omega
            have hk7 : (k : Int) ≤ (n : Int) := by omega
            have hk8 : (1 : Int) ≤ (k : Int) := by omega
            have hk9 : 0 < k := by omega
            have hk4 : IntKind.i64.wrap ((k : Int) - 1) = (k : Int) - 1 := IntWalk.i64_in _ (by omega)
            go_region_held3 (fun v => (v.cell? ⟨wr.heap.size, 0, none⟩ = some (.int .i64 (F k)) ∧ v.cell? ⟨wr.heap.size, 1, none⟩ = some (.int .i64 (U k)) ∧ v.cell? ⟨wr.heap.size, 2, none⟩ = some (.int .i64 (V k))) ∧
                v.cell? ⟨blk, off + (k - 1) * 3, none⟩ = some (.int .i64 (F (k - 1))) ∧ v.cell? ⟨blk, off + (k - 1) * 3 + 1, none⟩ = some (.int .i64 (U (k - 1))) ∧ v.cell? ⟨blk, off + (k - 1) * 3 + 2, none⟩ = some (.int .i64 (V (k - 1))))
              (first
                | exact ⟨⟨q0, q1, q2⟩, p0, p1, p2⟩
                | exact ⟨((MP.out.alloc _).alloc _), ((PP.out.alloc _).alloc _)⟩
                | go_keep)
              (first
                | (go_at_call 33; refine (continues_ex _ _ _ _ _ _ _).mono ?_; rintro e v ⟨rfl, rfl⟩))
            all_goals
              go_wp2_with fail
              go_meet
              have zz := MB.out.size
              exact ⟨by rw [hbad.out, Bool.decide_and], rfl, by have := MB.out; go_grown⟩
      case rest =>
        obtain ⟨rfl, rfl, hb⟩ := hcut
        have WB := Lib.hid hb
        clear hb q0 q1 q2
        by_cases hbad : badP F U V k
        · rw [decide_eq_true hbad]
          have hE : E = 5 := by
            have c : ckAt F U V k = 5 := (if_neg (fun g => g HS.out)).trans (if_pos hbad)
            rcases CK.out with ⟨_, h⟩ | ⟨_, _, h⟩
            · omega
            · omega
          subst hE
          clear hbad
          go_wp2
          go_ret
          exact ⟨rfl, WB.out⟩
        · rw [decide_eq_false hbad]
          have hkm : k < m := by
            have c : ckAt F U V k = 0 := (if_neg (fun g => g HS.out)).trans (if_neg hbad)
            rcases CK.out with ⟨h, _⟩ | ⟨_, h, _⟩
            · exact h
            · exact absurd c h
          clear hbad
          go_wp2
          go_roundw
          case rel => exact ⟨k + 1, by omega, by go_num, WB.out⟩
          case measure => simp [intOf]; omega
    · have hkd : decide ((k : Int) < (n : Int)) = false := by simp; omega
      have hE : E = 0 := by
        rcases HR.out with h | h
        · exact h.2
        · omega
      subst hE
      clear hb
      go_wp2
      go_ret
      exact ⟨rfl, NB.out⟩
set_option maxRecDepth 100000 in
set_option maxHeartbeats 4000000 in
/-- The pieces up to number m are in order; m is the end, or the first that is not. -/
theorem refCheck_loop (p : Option Addr) (n cap m : Nat) (F U V : Nat → Int) (w : World) (hP : PcsAt w p n F U V) (hn : (n : Int) ≤ 1024) (hm : m ≤ n)
    (hv : ∀ i : Nat, i < m → ckAt F U V i = 0) (E : Int) (hr : (m = n ∧ E = 0) ∨ (m < n ∧ ckAt F U V m ≠ 0 ∧ E = ckAt F U V m)) :
    Calls Try.prog 17 #[.slice p n cap] w fun e w' => e = .returned (.int .i64 E) ∧ Below w.heap.size w w' := by
  have HP := Lib.hid hP; have HV := Lib.hid hv; have HR := Lib.hid hr
  clear hP hv hr
  go_enter Try.func17, Try.ntmps17
  go_wp2
  go_loopw [3] (fun i wr => ∃ k : Nat, k ≤ m ∧ i = .int .i64 k ∧ Below w.heap.size w wr) (fun i _ => n - (intOf i).toNat)
  case atStart => exact ⟨0, Nat.zero_le _, rfl, by go_grown⟩
  case round =>
    obtain ⟨k, hk, rfl, hb⟩ := hrel
    have NB := Lib.hid hb
    by_cases hkn : k < n
    · obtain ⟨blk, off, rfl, hpc⟩ := HP.out.get hkn
      have PW := Lib.hid (hpc.below hb hpc.lt)
      have hkd : decide ((k : Int) < (n : Int)) = true := by simp; omega
      have q0 := PW.out.1; have q1 := PW.out.2.1; have q2 := PW.out.2.2
      have zb := PW.out.lt
      have CK : Hid ((k < m ∧ ckAt F U V k = 0) ∨ (k = m ∧ ckAt F U V k ≠ 0 ∧ E = ckAt F U V k)) := by
        rcases HR.out with h | h
        · exact Or.inl ⟨by omega, HV.out k (by omega)⟩
        · rcases (show k < m ∨ k = m by omega) with g | g
          · exact Or.inl ⟨g, HV.out k g⟩
          · subst g; exact Or.inr ⟨rfl, h.2⟩
      clear hb hpc
      by_cases hs : spn (F k) (U k)
      case neg =>
        have e : decide (spn (F k) (U k)) = false := decide_eq_false hs
        have hE : E = 2 := by
          have c : ckAt F U V k = 2 := if_pos hs
          rcases CK.out with ⟨_, h⟩ | ⟨_, _, h⟩
          · omega
          · omega
        subst hE
        clear hs
        go_wp2_with fail
        refine (Good_any _ _ _).mono ?_
        rintro e w' ⟨rfl, hb⟩
        have MB : Hid (Below w.heap.size w w') := NB.out.trans (hb.mono NB.out.size)
        clear hb
        rw [e]
        go_wp2
        go_ret
        exact ⟨rfl, MB.out⟩
      have e : decide (spn (F k) (U k)) = true := decide_eq_true hs
      have HS := Lib.hid hs
      clear hs
      go_wp2_with fail
      refine (Good_any _ _ _).mono ?_
      rintro e w' ⟨rfl, hb⟩
      have MB : Hid (Below w.heap.size w w') := NB.out.trans (hb.mono NB.out.size)
      have MP := Lib.hid (PW.out.next hb)
      clear hb q0 q1 q2 zb
      rw [e]
      have q0 := MP.out.1; have q1 := MP.out.2.1; have q2 := MP.out.2.2
      have zb := MP.out.lt
      go_wp2_with fail
      go_cut [67] from 7 to 67 (fun r wx => r = .bool (decide (badP F U V k)) ∧ Below w.heap.size w wx)
      case first =>
        rcases Nat.eq_zero_or_pos k with k0 | k0
        · have hbad := Lib.hid (show ¬ badP F U V k by omega)
          subst k0
          go_quiet (fail)
          go_wp2_with fail
          go_meet
          exact ⟨by rw [decide_eq_false hbad.out], below_drewN MB.out nq⟩
        · have hpc' : Pc w blk (off + (k - 1) * 3) (F (k - 1)) (U (k - 1)) (V (k - 1)) := by
            obtain ⟨b2, o2, h2, h3⟩ := HP.out.get (show k - 1 < n by omega)
            cases h2
            exact h3
          have PP := Lib.hid (hpc'.below MB.out hpc'.lt)
          have p0 := PP.out.1; have p1 := PP.out.2.1; have p2 := PP.out.2.2
          have zp := PP.out.lt
          clear hpc'
          have hkz : decide (0 < (k : Int)) = true := by simp; omega
          have hk1 : (0 : Int) ≤ (k : Int) - 1 := by omega
          have hk2 : (k : Int) - 1 < (n : Int) := by omega
          have hk3 : ((k : Int) - 1).toNat = k - 1 := by omega
          by_cases hlt : F k < U (k - 1)
          · have hbad := Lib.hid (show badP F U V k from ⟨k0, Or.inl hlt⟩)
            go_quiet (fail)
            go_wp2_with fail
            go_meet
            exact ⟨by rw [decide_eq_true hbad.out], below_drewN MB.out nq⟩
          · have hlt' : decide (F k < U (k - 1)) = false := decide_eq_false hlt
            have hbad : Hid (decide (badP F U V k) = decide (U (k - 1) = F k ∧ V (k - 1) = V k)) := by
              show decide (badP F U V k) = decide (U (k - 1) = F k ∧ V (k - 1) = V k)
              rw [decide_eq_decide]
              omega
            have HL := Lib.hid hlt
            clear hlt
            by_cases heq : U (k - 1) = F k
            · have he : (F k == U (k - 1)) = true := bool_eq heq.symm
              have HQ := Lib.hid heq
              clear heq
              go_quiet (fail)
              go_wp2_with fail
              go_meet
              refine ⟨?_, below_drewN MB.out nq⟩
              rw [hbad.out]
              have h1 := HQ.out
              refine congrArg Value.bool ?_
              rw [Bool.eq_iff_iff]
              simp only [beq_iff_eq, decide_eq_true_eq]
              omega
            · have he : (F k == U (k - 1)) = false := bool_ne (fun h => heq h.symm)
              have HQ := Lib.hid heq
              clear heq
              go_quiet (fail)
              go_wp2_with fail
              go_meet
              refine ⟨?_, below_drewN MB.out nq⟩
              rw [hbad.out, decide_eq_false (fun h => HQ.out h.1)]
      case rest =>
        obtain ⟨rfl, hb⟩ := hcut
        have WB := Lib.hid hb
        clear hb q0 q1 q2
        by_cases hbad : badP F U V k
        · rw [decide_eq_true hbad]
          have hE : E = 5 := by
            have c : ckAt F U V k = 5 := (if_neg (fun g => g HS.out)).trans (if_pos hbad)
            rcases CK.out with ⟨_, h⟩ | ⟨_, _, h⟩
            · omega
            · omega
          subst hE
          clear hbad
          go_wp2
          go_ret
          exact ⟨rfl, WB.out⟩
        · rw [decide_eq_false hbad]
          have hkm : k < m := by
            have c : ckAt F U V k = 0 := (if_neg (fun g => g HS.out)).trans (if_neg hbad)
            rcases CK.out with ⟨h, _⟩ | ⟨_, h, _⟩
            · exact h
            · exact absurd c h
          clear hbad
          go_wp2
          go_roundw
          case rel => exact ⟨k + 1, by omega, by go_num, WB.out⟩
          case measure => simp [intOf]; omega
    · have hkd : decide ((k : Int) < (n : Int)) = false := by simp; omega
      have hE : E = 0 := by
        rcases HR.out with h | h
        · exact h.2
        · omega
      subst hE
      clear hb
      go_wp2
      go_ret
      exact ⟨rfl, NB.out⟩
end Go.Proofs.Ytcgjhbjbfdbfaaa
