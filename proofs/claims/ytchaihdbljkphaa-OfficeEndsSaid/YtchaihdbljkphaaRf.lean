/-
  The reference: Name, SameInts, has, what an office is checked for, Check, Good. No statement of the seat is proved here.
-/
import Derived.Test.YtchaihdbljkphaaFi
namespace Go.Proofs.Ytchaihdbljkphaa
open Go Go.RowKit Go.Maps Go.Joins

def badN (l : List UInt8) (k : Nat) : Bool := !okC (l.getD k 0) || (decide (0 < k) && l.getD k 0 == 32 && l.getD (k - 1) 0 == 32)
theorem occ_two (l : List UInt8) (k : Nat) : Lib.occAt l [32, 32] k = true ↔ (k + 1 < l.length ∧ l.getD k 0 = 32 ∧ l.getD (k + 1) 0 = 32) := by
  unfold Lib.occAt
  rw [List.isPrefixOf_iff_prefix, List.prefix_iff_eq_take]
  constructor
  · intro h
    have hl := congrArg List.length h
    simp only [List.length_take, List.length_drop, List.length_cons, List.length_nil] at hl
    have hk : k + 1 < l.length := by omega
    have h0 := congrArg (fun l => l.getD 0 0) h
    have h1 := congrArg (fun l => l.getD 1 0) h
    simp [List.getD] at h0 h1
    exact ⟨hk, by simp [List.getD]; exact h0.symm, by simp [List.getD]; exact h1.symm⟩
  · rintro ⟨hk, h0, h1⟩
    have e : l.drop k = l.getD k 0 :: l.getD (k + 1) 0 :: l.drop (k + 2) := by
      rw [List.drop_eq_getElem_cons (by omega), List.drop_eq_getElem_cons (i := k + 1) (by omega)]
      simp [List.getD, hk, show k < l.length by omega]
    rw [e, h0, h1]
    rfl
theorem contains_two (l : List UInt8) : Lib.contains l [32, 32] = true ↔ ∃ k, k + 1 < l.length ∧ l.getD k 0 = 32 ∧ l.getD (k + 1) 0 = 32 := by
  unfold Lib.contains
  rw [decide_eq_true_eq]
  rcases Lib.index_spec l [32, 32] with ⟨h1, h2⟩ | ⟨i, h1, h2, h3, _⟩
  · rw [h1]
    constructor
    · intro h; omega
    · rintro ⟨k, hk⟩
      have := h2 k (by omega)
      rw [(occ_two l k).2 hk] at this
      cases this
  · rw [h1]
    exact ⟨fun _ => ⟨i, (occ_two l i).1 h3⟩, fun _ => by omega⟩
theorem name_bad (l : List UInt8) (h1 : 1 ≤ l.length) (h2 : l.length ≤ 64) (h3 : l.getD 0 0 ≠ 32) (h4 : l.getD (l.length - 1) 0 ≠ 32) : nameB l = true ↔ ∀ k, k < l.length → badN l k = false := by
  have e : nameB l = (l.all okC && !(Lib.contains l [32, 32])) := by
    unfold nameB
    rw [decide_eq_true h1, decide_eq_true h2]
    rw [List.head?_eq_getElem?, List.getLast?_eq_getElem?, List.getElem?_eq_getElem (show 0 < l.length by omega), List.getElem?_eq_getElem (show l.length - 1 < l.length by omega), some_ne, some_ne]
    have a : (l[0] != 32) = true := by rw [bne_iff_ne]; intro h; apply h3; simp [List.getD, show 0 < l.length by omega, h]
    have b : (l[l.length - 1] != 32) = true := by rw [bne_iff_ne]; intro h; apply h4; simp [List.getD, show l.length - 1 < l.length by omega, h]
    rw [a, b]; simp
  rw [e, Bool.and_eq_true, Bool.not_eq_true', ← Bool.not_eq_true, contains_two, List.all_eq_true]
  have gd : ∀ k (h : k < l.length), l.getD k 0 = l[k] := fun k h => by simp [List.getD, h]
  constructor
  · rintro ⟨a, b⟩ k hk
    unfold badN
    rw [gd k hk, a _ (List.getElem_mem _)]
    by_cases h0 : 0 < k
    · by_cases x : l[k] = 32
      · by_cases y : l.getD (k - 1) 0 = 32
        · exact absurd ⟨k - 1, by omega, y, by rw [show k - 1 + 1 = k by omega, gd k hk]; exact x⟩ b
        · have z : (l.getD (k - 1) 0 == 32) = false := by rw [beq_eq_false_iff_ne]; exact y
          rw [z]; simp
      · simp [x]
    · simp [h0]
  · intro h
    refine ⟨fun c hc => ?_, fun ⟨k, hk, x, y⟩ => ?_⟩
    · obtain ⟨j, hj, rfl⟩ := List.getElem_of_mem hc
      have := h j hj
      unfold badN at this
      rw [gd j hj] at this
      simp at this
      exact this.1
    · have := h (k + 1) hk
      unfold badN at this
      rw [show k + 1 - 1 = k by omega, x, y] at this
      simp at this

theorem getd_at (l : List UInt8) (j : Nat) (h : j < l.length) : l.getD j 0 = l[j] := by simp [List.getD, h]
set_option maxRecDepth 100000 in
set_option maxHeartbeats 8000000 in
theorem NameR_loop (s : ByteArray) (w : World) (m : Nat) (R : Bool) (h1 : 1 ≤ s.size) (h2 : s.size ≤ 64) (f0 : (bs s).getD 0 0 ≠ 32) (f1 : (bs s).getD (s.size - 1) 0 ≠ 32) (hm : m ≤ s.size) (hg : ∀ j, j < m → badN (bs s) j = false)
    (hR : (m < s.size ∧ badN (bs s) m = true ∧ R = false) ∨ (m = s.size ∧ R = true)) :
    Calls Try.prog 76 #[.string s] w fun e w' => e = .returned (.bool R) ∧ Below w.heap.size w w' := by
  have at0 : ∀ j (h : j < s.size), s[j] = (bs s).getD j 0 := by
    intro j h
    rw [at_bs2 s j h]
    have : j < (bs s).length := by rw [bs_len]; exact h
    simp [List.getD, this]
  have A0 := Lib.hid at0
  have HG := Lib.hid hg; have HR := Lib.hid hR
  have d1 : decide ((s.size : Int) < 1) = false := by rw [decide_eq_false_iff_not]; omega
  have d2 : decide ((s.size : Int) > 64) = false := by rw [decide_eq_false_iff_not]; omega
  have l0 : 0 < s.size := by omega
  have l1 : s.size - 1 < s.size := by omega
  have i1 : (0 : Int) ≤ (s.size : Int) - 1 := by omega
  have i1' : (1 : Int) ≤ (s.size : Int) := by omega
  have i2 : (s.size : Int) - 1 < (s.size : Int) := by omega
  have i3 : ((s.size : Int) - 1).toNat = s.size - 1 := by omega
  have z0 : s[0] ≠ 32 := by rw [at0 0 l0]; exact f0
  have z1 : s[s.size - 1] ≠ 32 := by rw [at0 _ l1]; exact f1
  have t0 : ((s[0].toNat : Int) == 32) = false := by
    rw [beq_eq_false_iff_ne]; intro h; exact z0 (by rw [← UInt8.toNat_inj]; show s[0].toNat = 32; omega)
  have t1 : ((s[s.size - 1].toNat : Int) == 32) = false := by
    rw [beq_eq_false_iff_ne]; intro h; exact z1 (by rw [← UInt8.toNat_inj]; show s[s.size - 1].toNat = 32; omega)
  clear hg hR at0 f0 f1 z0 z1
  go_enter Try.func76, Try.ntmps76
  go_wp2_with fail
  go_loopw [3] (fun i wr => ∃ k : Nat, k ≤ m ∧ i = .int .i64 k ∧ Below w.heap.size w wr) (fun i _ => s.size - (intOf i).toNat)
  case atStart => exact ⟨0, Nat.zero_le _, rfl, Below.refl _ _⟩
  case round =>
    obtain ⟨k, hk, rfl, hb⟩ := hrel
    have NB := Lib.hid hb
    clear hb
    by_cases hlt : k < s.size
    · have ha := A0.out k hlt
      have NO : Hid (badN (bs s) k = false → k + 1 ≤ m) := fun e => by
        rcases HR.out with ⟨_, h, _⟩ | ⟨rfl, _⟩
        · rcases Nat.lt_or_ge k m with q | q
          · exact q
          · obtain rfl : k = m := by omega
            rw [e] at h; cases h
        · exact hlt
      have YES : Hid (badN (bs s) k = true → R = false) := fun e => by
        rcases HR.out with ⟨_, _, h⟩ | ⟨rfl, _⟩
        · exact h
        · have := HG.out k hlt; rw [e] at this; cases this
      have hkd : decide ((k : Int) < (s.size : Int)) = true := by simp; omega
      by_cases b1 : s[k].toNat < 32
      · have u1 : decide ((s[k].toNat : Int) < 32) = true := by rw [decide_eq_true_iff]; omega
        have QR := Lib.hid (YES.out (by unfold badN okC; rw [← ha, decide_eq_false (show ¬ 32 ≤ s[k].toNat by omega)]; rfl))
        clear b1 ha
        go_wp2_with fail
        go_ret
        rw [QR.out]
        exact ⟨rfl, NB.out⟩
      have u1 : decide ((s[k].toNat : Int) < 32) = false := by rw [decide_eq_false_iff_not]; omega
      by_cases b2 : 126 < s[k].toNat
      · have u2 : decide ((s[k].toNat : Int) > 126) = true := by rw [decide_eq_true_iff]; omega
        have QR := Lib.hid (YES.out (by unfold badN okC; rw [← ha, decide_eq_false (show ¬ s[k].toNat ≤ 126 by omega)]; simp))
        clear b1 b2 ha
        go_wp2_with fail
        go_ret
        rw [QR.out]
        exact ⟨rfl, NB.out⟩
      have u2 : decide ((s[k].toNat : Int) > 126) = false := by rw [decide_eq_false_iff_not]; omega
      have ok : okC ((bs s).getD k 0) = true := by unfold okC; rw [← ha, decide_eq_true (show 32 ≤ s[k].toNat by omega), decide_eq_true (show s[k].toNat ≤ 126 by omega)]; rfl
      by_cases b3 : k = 0
      · have u3 : decide ((k : Int) > 0) = false := by rw [decide_eq_false_iff_not]; omega
        have u4 : decide (0 < k) = false := by rw [decide_eq_false_iff_not]; omega
        have u5 : ¬ 0 < k := by omega
        have hkm := NO.out (by unfold badN; rw [ok, decide_eq_false (show ¬ 0 < k by omega)]; rfl)
        clear b1 b2 b3 ha ok
        go_wp2_with fail
        all_goals
          go_roundw
          case rel => exact ⟨k + 1, hkm, by go_num, NB.out⟩
          case measure => simp [intOf]; omega
      have u3 : decide ((k : Int) > 0) = true := by rw [decide_eq_true_iff]; omega
      have u4 : decide (0 < k) = true := by rw [decide_eq_true_iff]; omega
      have u5 : 0 < k := by omega
      by_cases b4 : s[k] = 32
      · have t0 : ((s[k].toNat : Int) == 32) = true := by rw [b4]; rfl
        have l1 : k - 1 < s.size := by omega
        have i1 : (0 : Int) ≤ (k : Int) - 1 := by omega
        have i1' : (1 : Int) ≤ (k : Int) := by omega
        have i2 : (k : Int) - 1 < (s.size : Int) := by omega
        have i3 : ((k : Int) - 1).toNat = k - 1 := by omega
        have i4 : IntKind.i64.wrap ((k : Int) - 1) = (k : Int) - 1 := IntWalk.i64_in _ (by omega)
        have i5 : (k : Int) ≤ (s.size : Int) := by omega
        have i6 : k ≤ s.size := by omega
        have hb1 := A0.out (k - 1) l1
        by_cases b5 : s[k - 1] = 32
        · have t1 : ((s[k - 1].toNat : Int) == 32) = true := by rw [b5]; rfl
          have QR := Lib.hid (YES.out (by unfold badN; rw [ok, ← ha, ← hb1, b4, b5, decide_eq_true (show 0 < k by omega)]; rfl))
          clear b1 b2 b3 b4 b5 ha hb1 ok
          go_wp2_with fail
          go_ret
          rw [QR.out]
          exact ⟨rfl, NB.out⟩
        · have t1 : ((s[k - 1].toNat : Int) == 32) = false := by
            rw [beq_eq_false_iff_ne]; intro h; exact b5 (by rw [← UInt8.toNat_inj]; show s[k - 1].toNat = 32; omega)
          have hkm := NO.out (by unfold badN; rw [ok, ← hb1, show (s[k - 1] == 32) = false by rw [beq_eq_false_iff_ne]; exact b5]; simp)
          clear b1 b2 b3 b4 b5 ha hb1 ok
          go_wp2_with fail
          all_goals
            go_roundw
            case rel => exact ⟨k + 1, hkm, by go_num, NB.out⟩
            case measure => simp [intOf]; omega
      · have t0 : ((s[k].toNat : Int) == 32) = false := by
          rw [beq_eq_false_iff_ne]; intro h; exact b4 (by rw [← UInt8.toNat_inj]; show s[k].toNat = 32; omega)
        have hkm := NO.out (by unfold badN; rw [ok, ← ha, show (s[k] == 32) = false by rw [beq_eq_false_iff_ne]; exact b4]; simp)
        clear b1 b2 b3 b4 ha ok
        go_wp2_with fail
        all_goals
          go_roundw
          case rel => exact ⟨k + 1, hkm, by go_num, NB.out⟩
          case measure => simp [intOf]; omega
    · have hkd : decide ((k : Int) < (s.size : Int)) = false := by simp; omega
      have QR : Hid (R = true) := by
        show R = true
        rcases HR.out with ⟨h, _⟩ | ⟨_, h⟩
        · omega
        · exact h
      go_wp2_with fail
      go_ret
      rw [QR.out]
      exact ⟨rfl, NB.out⟩

set_option maxRecDepth 100000 in
set_option maxHeartbeats 4000000 in
theorem NameR_any (s : ByteArray) (w : World) (hs : s.size ≤ 140737488355328) :
    Calls Try.prog 76 #[.string s] w fun e w' => e = .returned (.bool (nameB (bs s))) ∧ Below w.heap.size w w' := by
  have hl : (bs s).length = s.size := bs_len s
  by_cases c1 : s.size = 0
  · have e : nameB (bs s) = false := by unfold nameB; rw [hl, decide_eq_false (show ¬ 1 ≤ s.size by omega)]; rfl
    have d1 : decide ((s.size : Int) < 1) = true := by rw [decide_eq_true_iff]; omega
    rw [e]
    clear e hl c1
    go_enter Try.func76, Try.ntmps76
    go_wp2_with fail
    go_ret
    exact ⟨rfl, Below.refl _ _⟩
  have d1 : decide ((s.size : Int) < 1) = false := by rw [decide_eq_false_iff_not]; omega
  by_cases c2 : 64 < s.size
  · have e : nameB (bs s) = false := by unfold nameB; rw [hl, decide_eq_false (show ¬ s.size ≤ 64 by omega)]; simp
    have d2 : decide ((s.size : Int) > 64) = true := by rw [decide_eq_true_iff]; omega
    rw [e]
    clear e hl c1 c2
    go_enter Try.func76, Try.ntmps76
    go_wp2_with fail
    go_ret
    exact ⟨rfl, Below.refl _ _⟩
  have d2 : decide ((s.size : Int) > 64) = false := by rw [decide_eq_false_iff_not]; omega
  have at0 : ∀ j (h : j < s.size), s[j] = (bs s).getD j 0 := by
    intro j h
    rw [at_bs2 s j h]
    have : j < (bs s).length := by rw [bs_len]; exact h
    simp [List.getD, this]
  have l0 : 0 < s.size := by omega
  have l1 : s.size - 1 < s.size := by omega
  by_cases c3 : (bs s).getD 0 0 = 32
  · have e : nameB (bs s) = false := by
      unfold nameB
      rw [List.head?_eq_getElem?, List.getElem?_eq_getElem (show 0 < (bs s).length by omega), some_ne, ← getd_at (bs s) 0 (by omega), c3]
      simp
    have z0 : s[0] = 32 := by rw [at0 0 l0]; exact c3
    have t0 : ((s[0].toNat : Int) == 32) = true := by rw [z0]; rfl
    rw [e]
    clear e hl c1 c2 c3 z0 at0
    go_enter Try.func76, Try.ntmps76
    go_wp2_with fail
    go_ret
    exact ⟨rfl, Below.refl _ _⟩
  by_cases c4 : (bs s).getD (s.size - 1) 0 = 32
  · have e : nameB (bs s) = false := by
      unfold nameB
      rw [List.getLast?_eq_getElem?, hl, List.getElem?_eq_getElem (show s.size - 1 < (bs s).length by omega), some_ne, ← getd_at (bs s) (s.size - 1) (by omega), c4]
      simp
    have z0 : s[0] ≠ 32 := by rw [at0 0 l0]; exact c3
    have z1 : s[s.size - 1] = 32 := by rw [at0 _ l1]; exact c4
    have t0 : ((s[0].toNat : Int) == 32) = false := by
      rw [beq_eq_false_iff_ne]; intro h; exact z0 (by rw [← UInt8.toNat_inj]; show s[0].toNat = 32; omega)
    have t1 : ((s[s.size - 1].toNat : Int) == 32) = true := by rw [z1]; rfl
    have i1 : (0 : Int) ≤ (s.size : Int) - 1 := by omega
    have i1' : (1 : Int) ≤ (s.size : Int) := by omega
    have i2 : (s.size : Int) - 1 < (s.size : Int) := by omega
    have i3 : ((s.size : Int) - 1).toNat = s.size - 1 := by omega
    rw [e]
    clear e hl c1 c2 c3 c4 z0 z1 at0
    go_enter Try.func76, Try.ntmps76
    go_wp2_with fail
    go_ret
    exact ⟨rfl, Below.refl _ _⟩
  obtain ⟨m, h1, h2, h3⟩ := first_not (fun j => badN (bs s) j = false) s.size
  have KEY := name_bad (bs s) (by omega) (by omega) c3 (by rw [hl]; exact c4)
  refine NameR_loop s w m _ (by omega) (by omega) c3 c4 h1 h2 ?_
  rcases Nat.lt_or_ge m s.size with q | q
  · rcases h3 with rfl | h3
    · omega
    · have hb : badN (bs s) m = true := by cases hh : badN (bs s) m with | true => rfl | false => exact absurd hh h3
      refine .inl ⟨q, hb, ?_⟩
      rw [← Bool.not_eq_true, KEY]
      intro k
      rw [k m (by omega)] at hb
      cases hb
  · obtain rfl : m = s.size := by omega
    refine .inr ⟨rfl, ?_⟩
    rw [KEY]
    exact fun k hk => h2 k (by omega)


theorem cell_next {w w' : World} {p : Addr} {v : Value} (h : w.cell? p = some v) (hb : Below w.heap.size w w') : w'.cell? p = some v :=
  (hb.cell (World.block_lt_of_cell? w _ h)).trans h

set_option maxRecDepth 100000 in
set_option maxHeartbeats 4000000 in
theorem same_ints (p q : Option Addr) (l : List Int) (c d : Nat) (w : World) (hp : IntsAt w p l) (hq : IntsAt w q l) (hs : l.length ≤ 100000) :
    Calls Try.prog 13 #[.slice p l.length c, .slice q l.length d] w fun e w' => e = .returned (.bool true) ∧ Below w.heap.size w w' := by
  obtain ⟨n, hn⟩ : ∃ n, l.length = n := ⟨_, rfl⟩
  rw [hn] at hs ⊢
  have HN := Lib.hid hn
  have HP := Lib.hid (fun v (h : Below w.heap.size w v) => hp.next h)
  have HQ := Lib.hid (fun v (h : Below w.heap.size w v) => hq.next h)
  have d0 : ((n : Int) != (n : Int)) = false := by simp
  clear hn hp hq
  go_enter Try.func13, Try.ntmps13
  go_wp2_with fail
  go_loopw [5] (fun i wr => ∃ k : Nat, k ≤ n ∧ i = .int .i64 k ∧ Below w.heap.size w wr) (fun i _ => n - iv i)
  case atStart => exact ⟨0, Nat.zero_le _, rfl, Below.refl _ _⟩
  case round =>
    obtain ⟨k, hk, rfl, hB⟩ := hrel
    have NB := Lib.hid hB
    clear hB
    by_cases hkn : k < n
    · obtain ⟨z, hz⟩ : ∃ z, l[k]? = some z := ⟨_, List.getElem?_eq_getElem (by rw [HN.out]; exact hkn)⟩
      obtain ⟨b1, o1, e1, h1⟩ := (HP.out wr NB.out).get hz
      obtain ⟨b2, o2, e2, h2⟩ := (HQ.out wr NB.out).get hz
      have z1 := World.block_lt_of_cell? wr _ h1
      have z2 := World.block_lt_of_cell? wr _ h2
      have hkd : decide ((k : Int) < (n : Int)) = true := by simp; omega
      have k1 : (0 : Int) ≤ (k : Int) := by omega
      have k2 : (k : Int) < (n : Int) := by omega
      have dz : (z != z) = false := by simp
      have dz2 : (z == z) = true := by simp
      clear hz
      rw [e1, e2]
      go_wp2_with fail
      go_quiet (fail)
      go_wp2_with fail
      go_roundw
      case rel => exact ⟨k + 1, by omega, by go_num, below_drewN NB.out _⟩
      case measure => simp only [iv]; omega
    · obtain rfl : k = n := by omega
      have hkd : decide ((k : Int) < (k : Int)) = false := by simp
      go_wp2_with fail
      go_ret
      exact ⟨rfl, NB.out⟩

set_option maxRecDepth 100000 in
set_option maxHeartbeats 4000000 in
theorem has_any (p : Option Addr) (l : List Int) (x : Int) (c : Nat) (w : World) (hp : IntsAt w p l) (hs : l.length ≤ 100000) :
    Calls Try.prog 38 #[.slice p l.length c, .int .i64 x] w fun e w' => e = .returned (.bool (decide (x ∈ l))) ∧ w = w' := by
  obtain ⟨n, hn⟩ : ∃ n, l.length = n := ⟨_, rfl⟩
  obtain ⟨R, hR⟩ : ∃ R, decide (x ∈ l) = R := ⟨_, rfl⟩
  rw [hn] at hs ⊢
  rw [hR]
  have HR := Lib.hid hR
  have HN := Lib.hid hn
  have HP := Lib.hid hp
  clear hn hp hR
  go_enter Try.func38, Try.ntmps38
  go_wp2_with fail
  go_loop [5] (fun i => ∃ k : Nat, k ≤ n ∧ i = .int .i64 k ∧ (∀ j y, j < k → l[j]? = some y → y ≠ x)) (fun i => n - iv i)
  case atStart => exact ⟨0, Nat.zero_le _, rfl, fun j y hj => absurd hj (Nat.not_lt_zero _)⟩
  case round =>
    obtain ⟨k, hk, rfl, hA⟩ := hrel
    have NA := Lib.hid hA
    clear hA
    by_cases hkn : k < n
    · obtain ⟨z, hz⟩ : ∃ z, l[k]? = some z := ⟨_, List.getElem?_eq_getElem (by rw [HN.out]; exact hkn)⟩
      obtain ⟨b1, o1, e1, h1⟩ := HP.out.get hz
      have z1 := World.block_lt_of_cell? w _ h1
      have hkd : decide ((k : Int) < (n : Int)) = true := by simp; omega
      have HZ := Lib.hid hz
      clear hz
      rw [e1]
      by_cases he : z = x
      · have E : R = true := by rw [← HR.out]; exact decide_eq_true (he ▸ List.mem_of_getElem? HZ.out)
        have d1 : (z == x) = true := by rw [he]; simp
        subst E
        clear he
        go_wp2_with fail
        go_ret
        exact ⟨rfl, rfl⟩
      · have d1 : (z == x) = false := by simp [he]
        have NA2 : Hid (∀ j y, j < k + 1 → l[j]? = some y → y ≠ x) := by
          show ∀ j y, j < k + 1 → l[j]? = some y → y ≠ x
          intro j y hj hy
          rcases (show j < k ∨ j = k by omega) with g | g
          · exact NA.out j y g hy
          · subst g
            obtain rfl := Option.some.inj (HZ.out.symm.trans hy)
            exact he
        clear he
        go_wp2_with fail
        go_round
        case rel => exact ⟨k + 1, by omega, by go_num, NA2.out⟩
        case measure => simp only [iv]; omega
    · obtain rfl : k = n := by omega
      have hkd : decide ((k : Int) < (k : Int)) = false := by simp
      have E : R = false := by
        rw [← HR.out, decide_eq_false_iff_not]
        intro hm
        obtain ⟨j, hj⟩ := List.getElem?_of_mem hm
        exact NA.out j x (by rw [← HN.out]; exact (List.getElem?_eq_some_iff.1 hj).1) hj rfl
      subst E
      go_wp2_with fail
      go_ret
      exact ⟨rfl, rfl⟩

end Go.Proofs.Ytchaihdbljkphaa
