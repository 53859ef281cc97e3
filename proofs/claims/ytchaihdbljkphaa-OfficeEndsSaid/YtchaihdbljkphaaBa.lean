/-
  What the library's calls want of the world; small functions: numbers within bounds, spans, names. No statement of the seat is proved here.
-/
import Derived.Test.YtchaihdbljkphaaRows
import Derived.Test.YtchaihdbljkphaaSh
import Derived.WalkKit
import Derived.WalkSpells
import Derived.WalkLawsBesides
import Derived.Lib.Hide
import Derived.Lib.IndexMore
import Derived.Handy
import Derived.ChangeAgain
import Derived.Deep.QuietTactic
import Derived.BigQuiet
import Derived.BigRegion
import Derived.Maps.OwnSet
import Derived.Maps.OwnOps
import Derived.Maps.RangeWalk
import Derived.Lib.SlKeysI
namespace Go.Proofs.Ytchaihdbljkphaa
open Go Go.RowKit Go.Shelf

def bs (x : ByteArray) : List UInt8 := x.data.toList
theorem bs_len (x : ByteArray) : (bs x).length = x.size := by simp [bs]
theorem tl (s : ByteArray) : s.toList = bs s := by
  unfold bs
  exact ByteArray.toList_eq s
theorem ret_bool {a b : Bool} (h : a = b) : Ending.returned (.bool a) = .returned (.bool b) := by rw [h]
theorem below_drewN {B : Nat} {a w : World} (h : Below B a w) (n : Nat) : Below B a (w.drewN n) := ⟨h.os, h.tape, h.output, h.size, h.block⟩
/-- What the library reads of the world. -/
structure Env (w : World) : Prop where
  shp : w.ShapedOpen Try.prog
theorem Env.below {w w' : World} (h : Env w) (hb : Below w.heap.size w w') : Env w' :=
  ⟨h.shp.keptBut (may := fun _ => False) (hb.frame _) (fun _ h => h.elim)⟩

set_option maxHeartbeats 1000000 in
theorem From_any (n a b : Int) (w : World) : Calls Try.prog 78 #[.int .i64 n, .int .i64 a, .int .i64 b] w fun e w' => e = .returned (.bool (decide (a ≤ n) && decide (n ≤ b))) ∧ w = w' := by
  go_enter Try.func78, Try.ntmps78
  go_wp2
  all_goals
    go_ret
    refine ⟨ret_bool ?_, rfl⟩
    first
      | (have h1 : n < a := by assumption
         rw [decide_eq_false (show ¬ a ≤ n by omega)]; rfl)
      | (have h1 : a ≤ n := by assumption
         rw [decide_eq_true h1]; rfl)
theorem IsID_any (n : Int) (w : World) : Calls Try.prog 60 #[.int .i64 n] w fun e w' => e = .returned (.bool (decide (1 ≤ n) && decide (n ≤ 1073741824))) ∧ w = w' := by
  go_enter Try.func60, Try.ntmps60
  go_wp2_with fail
  refine (From_any _ _ _ _).mono ?_
  rintro e w' ⟨rfl, rfl⟩
  go_wp2
  go_ret
  exact ⟨rfl, rfl⟩
/-- A span is valid. -/
abbrev spn (f u : Int) : Prop := 0 ≤ f ∧ f < u ∧ u ≤ 1048576
abbrev inS (f u d : Int) : Prop := f ≤ d ∧ d < u
set_option maxHeartbeats 1000000 in
theorem Valid_any (f u : Int) (w : World) :
    Calls Try.prog 61 #[.agg #[.int .i64 f, .int .i64 u]] w fun e w' => e = .returned (.bool (decide (spn f u))) ∧ Below w.heap.size w w' := by
  go_enter Try.func61, Try.ntmps61
  go_wp2
  all_goals
    go_ret
    refine ⟨ret_bool ?_, by go_grown⟩
    first | rfl | (apply Bool.eq_iff_iff.2; constructor <;> intro h9 <;> (try simp at *) <;> omega)
set_option maxHeartbeats 1000000 in
theorem Good_any (f u : Int) (w : World) :
    Calls Try.prog 75 #[.agg #[.int .i64 f, .int .i64 u]] w fun e w' => e = .returned (.bool (decide (spn f u))) ∧ Below w.heap.size w w' := by
  go_enter Try.func75, Try.ntmps75
  go_wp2
  all_goals
    go_ret
    refine ⟨ret_bool ?_, by go_grown⟩
    first | rfl | (apply Bool.eq_iff_iff.2; constructor <;> intro h9 <;> (try simp at *) <;> omega)
set_option maxHeartbeats 1000000 in
theorem Has_any (f u d : Int) (w : World) :
    Calls Try.prog 53 #[.agg #[.int .i64 f, .int .i64 u], .int .i64 d] w fun e w' => e = .returned (.bool (decide (inS f u d))) ∧ Below w.heap.size w w' := by
  go_enter Try.func53, Try.ntmps53
  go_wp2
  all_goals
    go_ret
    refine ⟨ret_bool ?_, by go_grown⟩
    first | rfl | (apply Bool.eq_iff_iff.2; constructor <;> intro h9 <;> (try simp at *) <;> omega)
set_option maxHeartbeats 1000000 in
theorem In_any (f u d : Int) (w : World) :
    Calls Try.prog 31 #[.agg #[.int .i64 f, .int .i64 u], .int .i64 d] w fun e w' => e = .returned (.bool (decide (inS f u d))) ∧ Below w.heap.size w w' := by
  go_enter Try.func31, Try.ntmps31
  go_wp2
  all_goals
    go_ret
    refine ⟨ret_bool ?_, by go_grown⟩
    first | rfl | (apply Bool.eq_iff_iff.2; constructor <;> intro h9 <;> (try simp at *) <;> omega)
theorem at_bs2 (s : ByteArray) (k : Nat) (h : k < s.size) : s[k] = (bs s)[k]'(by rw [bs_len]; exact h) := by
  unfold bs; rfl
theorem first_not (P : Nat → Prop) : ∀ n, ∃ m, m ≤ n ∧ (∀ j, j < m → P j) ∧ (m = n ∨ ¬ P m)
  | 0 => ⟨0, Nat.le_refl _, fun _ h => absurd h (Nat.not_lt_zero _), .inl rfl⟩
  | n + 1 => by
    obtain ⟨m, h1, h2, h3⟩ := first_not P n
    rcases h3 with rfl | h3
    · by_cases hp : P m
      · exact ⟨m + 1, Nat.le_refl _, fun j hj => by
          rcases (show j < m ∨ j = m by omega) with k | rfl
          · exact h2 j k
          · exact hp, .inl rfl⟩
      · exact ⟨m, by omega, h2, .inr hp⟩
    · exact ⟨m, by omega, h2, .inr h3⟩

def okC (c : UInt8) : Bool := decide (32 ≤ c.toNat) && decide (c.toNat ≤ 126)
def nameB (l : List UInt8) : Bool := decide (1 ≤ l.length) && decide (l.length ≤ 64) && l.all okC && (l.head? != some 32) && (l.getLast? != some 32) && !(Lib.contains l [32, 32])

set_option maxRecDepth 100000 in
theorem Name_len (s : ByteArray) (w : World) (h : s.size = 0 ∨ 64 < s.size) (hs : s.size ≤ 140737488355328) : Calls Try.prog 62 #[.string s] w fun e w' => e = .returned (.bool false) ∧ w = w' := by
  rcases h with h | h
  · have n1 : s.toList = [] := by rw [tl]; exact List.length_eq_zero_iff.1 (by rw [bs_len]; exact h)
    have n3 : (s.toList == []) = true := by rw [n1]; rfl
    have n5 : s.toList.isEmpty = true := by rw [n1]; rfl
    go_enter Try.func62, Try.ntmps62
    go_wp2
    go_ret
    exact ⟨rfl, rfl⟩
  · have n1 : s.toList ≠ [] := by rw [tl]; intro e; have := bs_len s; rw [e] at this; simp at this; omega
    have n3 : (s.toList == []) = false := by rw [beq_eq_false_iff_ne]; exact n1
    have n5 : s.toList.isEmpty = false := by cases h : s.toList with | nil => exact absurd h n1 | cons _ _ => rfl
    have d : decide ((s.size : Int) > 64) = true := by rw [decide_eq_true_iff]; omega
    clear n1
    go_enter Try.func62, Try.ntmps62
    go_wp2
    go_ret
    exact ⟨rfl, rfl⟩

set_option maxRecDepth 100000 in
set_option maxHeartbeats 4000000 in
theorem Name_loop (s : ByteArray) (w : World) (hE : Env w) (m : Nat) (R : Bool) (h1 : 1 ≤ s.size) (h2 : s.size ≤ 64) (hm : m ≤ s.size) (hg : ∀ j, j < m → okC ((bs s).getD j 0) = true)
    (hR : (m < s.size ∧ okC ((bs s).getD m 0) = false ∧ R = false) ∨ (m = s.size ∧ R = ((bs s).getD 0 0 != 32 && (bs s).getD (s.size - 1) 0 != 32 && !(Lib.contains (bs s) [32, 32])))) :
    Calls Try.prog 62 #[.string s] w fun e w' => e = .returned (.bool R) ∧ w = w' := by
  have n1 : s.toList ≠ [] := by rw [tl]; intro e; have := bs_len s; rw [e] at this; simp at this; omega
  have n3 : (s.toList == []) = false := by rw [beq_eq_false_iff_ne]; exact n1
  have n5 : s.toList.isEmpty = false := by cases h : s.toList with | nil => exact absurd h n1 | cons _ _ => rfl
  have d : decide ((s.size : Int) > 64) = false := by rw [decide_eq_false_iff_not]; omega
  have at0 : ∀ j (h : j < s.size), s[j] = (bs s).getD j 0 := by
    intro j h
    rw [at_bs2 s j h]
    have : j < (bs s).length := by rw [bs_len]; exact h
    simp [List.getD, this]
  have A0 := Lib.hid at0
  have HG := Lib.hid hg; have HR := Lib.hid hR; have E0 := Lib.hid hE
  clear n1 hg hR hE at0
  go_enter Try.func62, Try.ntmps62
  go_wp2
  go_loop [13] (fun i => ∃ k : Nat, k ≤ m ∧ i = .int .i64 k) (fun i => s.size - (intOf i).toNat)
  case atStart => exact ⟨0, Nat.zero_le _, rfl⟩
  case round =>
    obtain ⟨k, hk, rfl⟩ := hrel
    by_cases hlt : k < s.size
    · have ha := A0.out k hlt
      cases hc : okC s[k] with
      | true =>
        have b1 : 32 ≤ s[k].toNat ∧ s[k].toNat ≤ 126 := by unfold okC at hc; simpa using hc
        have hkm : k + 1 ≤ m := by
          rcases HR.out with ⟨_, h, _⟩ | ⟨rfl, _⟩
          · rcases Nat.lt_or_ge k m with q | q
            · exact q
            · obtain rfl : k = m := by omega
              rw [← ha, hc] at h; cases h
          · exact hlt
        have u1 : decide ((s[k].toNat : Int) < 32) = false := by rw [decide_eq_false_iff_not]; omega
        have u2 : decide ((s[k].toNat : Int) > 126) = false := by rw [decide_eq_false_iff_not]; omega
        clear ha hc
        go_wp2
        go_round
        case rel => exact ⟨k + 1, hkm, by go_num⟩
        case measure => simp [intOf]; omega
      | false =>
        have b1 : s[k].toNat < 32 ∨ 126 < s[k].toNat := by unfold okC at hc; simp at hc; omega
        have QR : R = false := by
          rcases HR.out with ⟨_, _, h⟩ | ⟨rfl, _⟩
          · exact h
          · have := HG.out k hlt; rw [← ha, hc] at this; cases this
        have Q := Lib.hid QR
        clear ha hc QR
        rcases b1 with b1 | b1
        · have u1 : decide ((s[k].toNat : Int) < 32) = true := by rw [decide_eq_true_iff]; omega
          go_wp2
          go_ret
          rw [Q.out]
          exact ⟨rfl, rfl⟩
        · have u1 : decide ((s[k].toNat : Int) < 32) = false := by rw [decide_eq_false_iff_not]; omega
          have u2 : decide ((s[k].toNat : Int) > 126) = true := by rw [decide_eq_true_iff]; omega
          go_wp2
          go_ret
          rw [Q.out]
          exact ⟨rfl, rfl⟩
    · obtain rfl : k = s.size := by omega
      obtain rfl : m = s.size := by omega
      have QR : R = ((bs s).getD 0 0 != 32 && (bs s).getD (s.size - 1) 0 != 32 && !(Lib.contains (bs s) [32, 32])) := by
        rcases HR.out with ⟨h, _⟩ | ⟨_, h⟩
        · omega
        · exact h
      have i1 : (0 : Int) ≤ (s.size : Int) - 1 := by omega
      have i1' : (1 : Int) ≤ (s.size : Int) := by omega
      have i2 : (s.size : Int) - 1 < (s.size : Int) := by omega
      have i3 : ((s.size : Int) - 1).toNat = s.size - 1 := by omega
      have i4 : s.size - 1 < s.size := by omega
      have i5 : 0 < s.size := by omega
      have a0 := A0.out 0 (by omega)
      have a1 := A0.out (s.size - 1) (by omega)
      rw [← a0, ← a1] at QR
      have Q := Lib.hid QR
      have CC := Lib.hid (Try.strings_Contains_shaped s ⟨#[32, 32]⟩ w E0.out.shp (by omega))
      clear a0 a1 QR
      by_cases z0 : s[0] = 32
      · have t0 : ((s[0].toNat : Int) == 32) = true := by rw [z0]; rfl
        have t0' : ((s[0].toNat : Int) != 32) = false := by rw [z0]; rfl
        have Q2 := Lib.hid (show R = false by rw [Q.out, z0]; rfl)
        clear z0
        go_wp2_with fail
        go_ret
        rw [Q2.out]
        exact ⟨rfl, rfl⟩
      · have t0 : ((s[0].toNat : Int) == 32) = false := by
          rw [beq_eq_false_iff_ne]; intro h; exact z0 (by rw [← UInt8.toNat_inj]; show s[0].toNat = 32; omega)
        have t0' : ((s[0].toNat : Int) != 32) = true := by unfold bne; rw [t0]; rfl
        by_cases z1 : s[s.size - 1] = 32
        · have t1 : ((s[s.size - 1].toNat : Int) == 32) = true := by rw [z1]; rfl
          have t1' : ((s[s.size - 1].toNat : Int) != 32) = false := by rw [z1]; rfl
          have Q2 := Lib.hid (show R = false by rw [Q.out, z1]; simp)
          clear z0 z1
          go_wp2_with fail
          go_ret
          rw [Q2.out]
          exact ⟨rfl, rfl⟩
        · have t1 : ((s[s.size - 1].toNat : Int) == 32) = false := by
            rw [beq_eq_false_iff_ne]; intro h; exact z1 (by rw [← UInt8.toNat_inj]; show s[s.size - 1].toNat = 32; omega)
          have t1' : ((s[s.size - 1].toNat : Int) != 32) = true := by unfold bne; rw [t1]; rfl
          have Q2 := Lib.hid (show R = !(Lib.contains (bs s) [32, 32]) by
            rw [Q.out, show (s[0] != 32) = true by rw [bne_iff_ne]; exact z0, show (s[s.size - 1] != 32) = true by rw [bne_iff_ne]; exact z1]; rfl)
          obtain ⟨cc, hcc⟩ : ∃ c, c = Lib.contains (bs s) [32, 32] := ⟨_, rfl⟩
          rw [← hcc] at Q2
          have C2 : Hid (Calls Try.prog 79 #[Value.string s, Value.string { data := #[32, 32] }] w fun e w' => e = Ending.returned (Value.bool cc) ∧ w' = w) := by rw [hcc]; exact CC.out
          clear z0 z1 hcc
          go_wp2_with fail
          refine C2.out.mono ?_
          rintro e w' ⟨rfl, rfl⟩
          go_wp2_with fail
          go_ret
          rw [Q2.out]
          exact ⟨rfl, rfl⟩

theorem some_ne (a b : UInt8) : (some a != some b) = (a != b) := by unfold bne; rfl
theorem Name_any (s : ByteArray) (w : World) (hE : Env w) (hs : s.size ≤ 140737488355328) : Calls Try.prog 62 #[.string s] w fun e w' => e = .returned (.bool (nameB (bs s))) ∧ w = w' := by
  by_cases h : s.size = 0 ∨ 64 < s.size
  · refine (Name_len s w h hs).mono ?_
    rintro e w' ⟨rfl, rfl⟩
    have : nameB (bs s) = false := by
      unfold nameB
      rw [bs_len]
      rcases h with h | h
      · simp [h]
      · rw [show decide (s.size ≤ 64) = false by rw [decide_eq_false_iff_not]; omega]; simp
    rw [this]
    exact ⟨rfl, rfl⟩
  have hl : (bs s).length = s.size := bs_len s
  obtain ⟨m, h1, h2, h3⟩ := first_not (fun j => okC ((bs s).getD j 0) = true) s.size
  have getd : ∀ j, (hj : j < s.size) → (bs s).getD j 0 = (bs s)[j]'(by omega) := by
    intro j hj
    have : j < (bs s).length := by omega
    simp [List.getD, this]
  have e1 : nameB (bs s) = ((bs s).all okC && ((bs s).getD 0 0 != 32) && ((bs s).getD (s.size - 1) 0 != 32) && !(Lib.contains (bs s) [32, 32])) := by
    unfold nameB
    rw [show decide (1 ≤ (bs s).length) = true by rw [decide_eq_true_iff]; omega, show decide ((bs s).length ≤ 64) = true by rw [decide_eq_true_iff]; omega]
    rw [List.head?_eq_getElem?, List.getLast?_eq_getElem?, hl, List.getElem?_eq_getElem (show 0 < (bs s).length by omega), List.getElem?_eq_getElem (show s.size - 1 < (bs s).length by omega), getd 0 (by omega), getd (s.size - 1) (by omega), some_ne, some_ne]
    simp
  refine Name_loop s w hE m _ (by omega) (by omega) h1 h2 ?_
  rcases h3 with rfl | h3
  · refine .inr ⟨rfl, ?_⟩
    have : (bs s).all okC = true := by
      rw [List.all_eq_true]
      intro c hc
      obtain ⟨j, hj, rfl⟩ := List.getElem_of_mem hc
      have := h2 j (by omega)
      rwa [getd j (by omega)] at this
    rw [e1, this]; simp
  · rcases Nat.lt_or_ge m s.size with q | q
    · have h4 : okC ((bs s).getD m 0) = false := by cases hh : okC ((bs s).getD m 0) with | true => exact absurd hh h3 | false => rfl
      refine .inl ⟨q, h4, ?_⟩
      have : (bs s).all okC = false := by
        rw [List.all_eq_false]
        refine ⟨(bs s).getD m 0, ?_, h3⟩
        rw [getd m q]; exact List.getElem_mem _
      rw [e1, this]; simp
    · obtain rfl : m = s.size := by omega
      refine .inr ⟨rfl, ?_⟩
      have : (bs s).all okC = true := by
        rw [List.all_eq_true]
        intro c hc
        obtain ⟨j, hj, rfl⟩ := List.getElem_of_mem hc
        have := h2 j (by omega)
        rwa [getd j (by omega)] at this
      rw [e1, this]; simp

end Go.Proofs.Ytchaihdbljkphaa
