/-
  slices.Contains and slices.ContainsFunc over notes, with the closure of the law FileLearns. No statement of the seat is proved here.
-/
import Derived.Test.YtjnlbjlejggngaaGreatDoorFw
namespace Go.Proofs.YtjnlbjlejggngaaGreatDoor
open Go Go.RowKit

theorem nt_ext {x y : Nt} (h1 : x.s = y.s) (h2 : x.a = y.a) (h3 : x.b = y.b) (h4 : x.r = y.r) : x = y := by
  cases x; cases y; simp_all

set_option maxRecDepth 100000 in
set_option maxHeartbeats 8000000 in
/-- A note that is in the list is found. -/
theorem Index_in (p : Option Addr) (n cap : Nat) (l : List Nt) (x : Nt) (w : World) (hP : NtsAt w p l) (hl : l.length = n) (hx : x ∈ l) (hnb : n ≤ 1000000000) :
    Calls Tryz.prog 61 #[.slice p n cap, x.val] w fun e w' => ∃ k : Nat, e = .returned (.int .i64 k) ∧ Below w.heap.size w w' := by
  obtain ⟨m0, hm0⟩ := List.getElem?_of_mem hx
  obtain ⟨W1, hW1⟩ : ∃ W1, W1 = w.alloc (.cells #[.string x.s, .int .i64 x.a, .int .i64 x.b, .int .i64 x.r] 62) := ⟨_, rfl⟩
  obtain ⟨b, hb⟩ : ∃ b, b = w.heap.size := ⟨_, rfl⟩
  have B1 : Hid (Below w.heap.size w W1) := by rw [hW1]; exact (Below.refl _ _).alloc (Nat.le_refl _) _
  have X1 : Hid (NtAt W1 b 0 x) := by rw [hW1, hb]; exact nt_new w x 62
  have P1 := Lib.hid (hP.next B1.out)
  have HL := Lib.hid hl
  have HM := Lib.hid hm0
  have HB := Lib.hid hb
  have hmn : m0 < n := by have := (List.getElem?_eq_some_iff.1 hm0).1; omega
  unfold Nt.val
  clear hP hl hx hm0
  go_enter Tryz.func61, Tryz.ntmps61
  go_wp2_with fail
  rw [← hW1, ← hb]
  clear hW1 hb
  go_loopw [8] (fun i wr => ∃ k : Nat, k ≤ m0 ∧ i = .int .i64 k ∧ Below W1.heap.size W1 wr) (fun i _ => n - (intOf i).toNat)
  case atStart => exact ⟨0, Nat.zero_le _, rfl, Below.refl _ _⟩
  case round =>
    obtain ⟨k, hk, rfl, hb⟩ := hrel
    have NB := Lib.hid hb
    obtain ⟨y, hy⟩ : ∃ y, l[k]? = some y := ⟨_, List.getElem?_eq_getElem (by rw [HL.out]; omega)⟩
    obtain ⟨blk, off, rfl, hpc⟩ := P1.out.get hy
    have PW := Lib.hid (hpc.next hb)
    have XW := Lib.hid (X1.out.next hb)
    have hkd : decide ((k : Int) < (n : Int)) = true := by simp; omega
    have hkz : (k : Int) < (n : Int) := by omega
    have q0 := PW.out.1; have q1 := PW.out.2.1; have q2 := PW.out.2.2.1; have q3 := PW.out.2.2.2
    have r0 := XW.out.1; have r1 := XW.out.2.1; have r2 := XW.out.2.2.1; have r3 := XW.out.2.2.2
    have zb := PW.out.lt
    have zb2 := XW.out.lt
    have HY := Lib.hid hy
    have BF : Hid (Below w.heap.size w wr) := B1.out.trans (NB.out.mono B1.out.size)
    clear hb hpc hy
    by_cases h1 : x.s = y.s
    · have e1 := ba_eq' h1
      by_cases h2 : x.a = y.a
      · have e2 : (x.a == y.a) = true := by simp [h2]
        by_cases h3 : x.b = y.b
        · have e3 : (x.b == y.b) = true := by simp [h3]
          by_cases h4 : x.r = y.r
          · have e4 : (x.r == y.r) = true := by simp [h4]
            clear h1 h2 h3 h4
            go_wp2_with fail
            go_quiet (fail)
            go_wp2_with fail
            go_ret
            exact ⟨k, rfl, by first | exact below_drewN BF.out _ | (rw [HB.out]; exact below_drewN BF.out _)⟩
          · have e4 : (x.r == y.r) = false := by simp [h4]
            have HE : Hid (x ≠ y) := fun h => h4 (by rw [h])
            clear h1 h2 h3 h4
            have hkm : k < m0 := by
              rcases (show k < m0 ∨ k = m0 by omega) with g | g
              · exact g
              · subst g
                exact absurd (Option.some.inj (HM.out.symm.trans HY.out)) HE.out
            go_wp2_with fail
            go_quiet (fail)
            go_wp2_with fail
            go_roundw
            case rel => exact ⟨k + 1, by omega, by go_num, below_drewN NB.out _⟩
            case measure => simp [intOf]; omega
        · have e3 : (x.b == y.b) = false := by simp [h3]
          have HE : Hid (x ≠ y) := fun h => h3 (by rw [h])
          clear h1 h2 h3
          have hkm : k < m0 := by
            rcases (show k < m0 ∨ k = m0 by omega) with g | g
            · exact g
            · subst g
              exact absurd (Option.some.inj (HM.out.symm.trans HY.out)) HE.out
          go_wp2_with fail
          go_quiet (fail)
          go_wp2_with fail
          go_roundw
          case rel => exact ⟨k + 1, by omega, by go_num, below_drewN NB.out _⟩
          case measure => simp [intOf]; omega
      · have e2 : (x.a == y.a) = false := by simp [h2]
        have HE : Hid (x ≠ y) := fun h => h2 (by rw [h])
        clear h1 h2
        have hkm : k < m0 := by
          rcases (show k < m0 ∨ k = m0 by omega) with g | g
          · exact g
          · subst g
            exact absurd (Option.some.inj (HM.out.symm.trans HY.out)) HE.out
        go_wp2_with fail
        go_quiet (fail)
        go_wp2_with fail
        go_roundw
        case rel => exact ⟨k + 1, by omega, by go_num, below_drewN NB.out _⟩
        case measure => simp [intOf]; omega
    · have e1 := ba_ne' h1
      have HE : Hid (x ≠ y) := fun h => h1 (by rw [h])
      clear h1
      have hkm : k < m0 := by
        rcases (show k < m0 ∨ k = m0 by omega) with g | g
        · exact g
        · subst g
          exact absurd (Option.some.inj (HM.out.symm.trans HY.out)) HE.out
      go_wp2_with fail
      go_quiet (fail)
      go_wp2_with fail
      go_roundw
      case rel => exact ⟨k + 1, by omega, by go_num, below_drewN NB.out _⟩
      case measure => simp [intOf]; omega

set_option maxHeartbeats 4000000 in
theorem Contains_in (p : Option Addr) (n cap : Nat) (l : List Nt) (x : Nt) (w : World) (hP : NtsAt w p l) (hl : l.length = n) (hx : x ∈ l) (hnb : n ≤ 1000000000) :
    Calls Tryz.prog 33 #[.slice p n cap, x.val] w fun e w' => e = .returned (.bool true) ∧ Below w.heap.size w w' := by
  obtain ⟨W1, hW1⟩ : ∃ W1, W1 = w.alloc (.cells #[.string x.s, .int .i64 x.a, .int .i64 x.b, .int .i64 x.r] 62) := ⟨_, rfl⟩
  obtain ⟨b, hb⟩ : ∃ b, b = w.heap.size := ⟨_, rfl⟩
  have B1 : Hid (Below w.heap.size w W1) := by rw [hW1]; exact (Below.refl _ _).alloc (Nat.le_refl _) _
  have X1 : NtAt W1 b 0 x := by rw [hW1, hb]; exact nt_new w x 62
  have C := Lib.hid (Index_in p n cap l x W1 (hP.next B1.out) hl hx hnb)
  have r0 := X1.1; have r1 := X1.2.1; have r2 := X1.2.2.1; have r3 := X1.2.2.2
  have HB := Lib.hid hb
  unfold Nt.val at C ⊢
  clear hP hl hx X1
  go_enter Tryz.func33, Tryz.ntmps33
  go_wp2_with fail
  rw [← hW1, ← hb]
  clear hW1 hb
  go_wp2_with fail
  refine C.out.mono ?_
  rintro e w2 ⟨k, rfl, hb⟩
  have BF : Hid (Below w.heap.size w w2) := B1.out.trans (hb.mono B1.out.size)
  have ek : decide ((k : Int) ≥ 0) = true := by simp
  clear hb
  go_wp2_with fail
  go_ret
  exact ⟨rfl, by first | exact BF.out | (rw [HB.out]; exact BF.out)⟩

set_option maxHeartbeats 4000000 in
theorem miss32_any (p : Option Addr) (n cap : Nat) (l : List Nt) (x : Nt) (c : Nat) (w : World) (hP : NtsAt w p l) (hl : l.length = n) (hx : x ∈ l) (hnb : n ≤ 1000000000) (hc : w.cell? ⟨c, 0, none⟩ = some (.slice p n cap)) :
    Calls Tryz.prog 32 #[x.val, .pointer (some ⟨c, 0, none⟩)] w fun e w' => e = .returned (.bool false) ∧ Below w.heap.size w w' := by
  obtain ⟨W1, hW1⟩ : ∃ W1, W1 = w.alloc (.cells #[.string x.s, .int .i64 x.a, .int .i64 x.b, .int .i64 x.r] 62) := ⟨_, rfl⟩
  obtain ⟨b, hb⟩ : ∃ b, b = w.heap.size := ⟨_, rfl⟩
  have B1 : Hid (Below w.heap.size w W1) := by rw [hW1]; exact (Below.refl _ _).alloc (Nat.le_refl _) _
  have X1 : NtAt W1 b 0 x := by rw [hW1, hb]; exact nt_new w x 62
  have c0 := cell_next hc B1.out
  have C := Lib.hid (Contains_in p n cap l x W1 (hP.next B1.out) hl hx hnb)
  have r0 := X1.1; have r1 := X1.2.1; have r2 := X1.2.2.1; have r3 := X1.2.2.2
  have HB := Lib.hid hb
  unfold Nt.val at C ⊢
  clear hP hl hx X1 hc
  rw [hW1] at c0
  rw [hW1, hb] at r0 r1 r2 r3
  go_enter Tryz.func32, Tryz.ntmps32
  go_wp2_with fail
  rw [← hW1]
  clear hW1
  refine C.out.mono ?_
  rintro e w2 ⟨rfl, hb⟩
  have BF : Hid (Below w.heap.size w w2) := B1.out.trans (hb.mono B1.out.size)
  clear hb
  go_wp2_with fail
  go_ret
  exact ⟨rfl, by first | exact BF.out | (rw [HB.out]; exact BF.out)⟩

set_option maxRecDepth 100000 in
set_option maxHeartbeats 8000000 in
/-- No note of a list is missing from another one that has them all. -/
theorem CFmiss (p q : Option Addr) (n cap m cap2 : Nat) (l r : List Nt) (c : Nat) (w : World) (hP : NtsAt w p l) (hQ : NtsAt w q r) (hl : l.length = n) (hr : r.length = m) (hnb : n ≤ 1000000000) (hmb : m ≤ 1000000000) (hs : ∀ x ∈ l, x ∈ r) (hc : w.cell? ⟨c, 0, none⟩ = some (.slice q m cap2)) :
    Calls Tryz.prog 31 #[.slice p n cap, .func (.func 32) #[] #[.pointer (some ⟨c, 0, none⟩)]] w fun e w' => e = .returned (.bool false) ∧ Below w.heap.size w w' := by
  have I : Calls Tryz.prog 60 #[.slice p n cap, .func (.func 32) #[] #[.pointer (some ⟨c, 0, none⟩)]] w fun e w' => e = .returned (.int .i64 (-1)) ∧ Below w.heap.size w w' := by
    have P1 := Lib.hid hP; have Q1 := Lib.hid hQ; have HL := Lib.hid hl; have HS := Lib.hid hs; have C0 := Lib.hid hc; have HR := Lib.hid hr
    clear hP hQ hl hs hc hr
    go_enter Tryz.func60, Tryz.ntmps60
    go_wp2_with fail
    go_loopw [8] (fun i wr => ∃ k : Nat, k ≤ n ∧ i = .int .i64 k ∧ Below w.heap.size w wr) (fun i _ => n - (intOf i).toNat)
    case atStart => exact ⟨0, Nat.zero_le _, rfl, by go_grown⟩
    case round =>
      obtain ⟨k, hk, rfl, hb⟩ := hrel
      have NB := Lib.hid hb
      by_cases hkn : k < n
      · obtain ⟨y, hy⟩ : ∃ y, l[k]? = some y := ⟨_, List.getElem?_eq_getElem (by rw [HL.out]; omega)⟩
        obtain ⟨blk, off, rfl, hpc⟩ := P1.out.get hy
        have PW := Lib.hid (hpc.next hb)
        have C1 := Lib.hid (miss32_any q m cap2 r y c wr (Q1.out.next hb) HR.out (HS.out y (List.mem_of_getElem? hy)) hmb (cell_next C0.out hb))
        have hkd : decide ((k : Int) < (n : Int)) = true := by simp; omega
        have q0 := PW.out.1; have q1 := PW.out.2.1; have q2 := PW.out.2.2.1; have q3 := PW.out.2.2.2
        have zb := PW.out.lt
        unfold Nt.val at C1
        clear hb hpc hy
        go_wp2_with fail
        refine C1.out.mono ?_
        rintro e w2 ⟨rfl, hb⟩
        have BF := Lib.hid (NB.out.trans (hb.mono NB.out.size))
        clear hb
        go_wp2_with fail
        go_roundw
        case rel => exact ⟨k + 1, hkn, by go_num, BF.out⟩
        case measure => simp [intOf]; omega
      · have hkd : decide ((k : Int) < (n : Int)) = false := by simp; omega
        go_wp2_with fail
        go_ret
        exact ⟨rfl, NB.out⟩
  have CI := Lib.hid I
  clear I hP hQ hl hr hs hc
  go_enter Tryz.func31, Tryz.ntmps31
  go_wp2_with fail
  refine CI.out.mono ?_
  rintro e w2 ⟨rfl, hb⟩
  go_wp2_with fail
  go_ret
  exact ⟨rfl, hb⟩

end Go.Proofs.YtjnlbjlejggngaaGreatDoor
