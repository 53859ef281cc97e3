/-
  The reference's Next; isChild, Children of the code and of the reference; SameStrings. No statement of the seat is proved here.
-/
import Derived.Test.YtbjbioiggjhknaaGreatDoorRr
import Derived.Test.YtbjbioiggjhknaaGreatDoorFp
import Derived.Test.YtbjbioiggjhknaaGreatDoorSo
namespace Go.Proofs.YtbjbioiggjhknaaGreatDoor
open Go Go.RowKit

theorem ParentR_any (s : ByteArray) (w : World) (_hE : Env w) (hs : s.size ≤ 1000000000000) :
    Calls Tryz.prog 80 #[.string s] w fun e w' => e = .returned (optV (par s)) ∧ Below w.heap.size w w' := by
  cases h : par s with
  | none => exact refParent_no s w hs (par_none h)
  | some q =>
    obtain ⟨ms, n, h0, h1, rfl, _⟩ := par_some h
    exact refParent_yes s ms n w h0 h1

theorem nxt_way (old new : Pln) (s : ByteArray) (h : has old.cs s = true) : ∃ m, m ≤ new.ms.length ∧ (∀ j y, j < m → new.ms[j]? = some y → y.c ≠ s) ∧ ((m = new.ms.length ∧ nxt old new s = near new.cs s) ∨ (∃ x, new.ms[m]? = some x ∧ x.c = s ∧ nxt old new s = some x.t)) := by
  unfold nxt
  rw [if_pos h]
  rcases find_at s new.ms with ⟨h1, h2⟩ | ⟨m, x, h1, h2, h3, h4⟩
  · refine ⟨new.ms.length, Nat.le_refl _, fun j y _ hy => of_decide_eq_false (h2 y (List.mem_of_getElem? hy)), .inl ⟨rfl, ?_⟩⟩
    rw [h1]
  · refine ⟨m, Nat.le_of_lt (List.getElem?_eq_some_iff.1 h1).1, fun j y hj hy => of_decide_eq_false (h3 j y hj hy), .inr ⟨x, h1, of_decide_eq_true h2, ?_⟩⟩
    rw [h4]

set_option maxRecDepth 100000 in
set_option maxHeartbeats 8000000 in
theorem NextR_any (old new : Pln) (s : ByteArray) (w : World) (hE : Env w) (hO : PlnOk w old) (hN : PlnOk w new) (n1 : old.cs.length ≤ 1000000000) (n2 : new.cs.length ≤ 1000000000) (n3 : new.ms.length ≤ 1000000000) (hs : s.size ≤ 1000000000000) :
    Calls Tryz.prog 56 #[old.val, new.val, .string s] w fun e w' => e = .returned (optV (nxt old new s)) ∧ Below w.heap.size w w' := by
  have E0 := Lib.hid hE; have N0 := Lib.hid hN
  obtain ⟨W1, hW1⟩ : ∃ W1, W1 = (w.alloc (.cells old.cells 51)).alloc (.cells new.cells 51) := ⟨_, rfl⟩
  obtain ⟨b, hb⟩ : ∃ b, b = w.heap.size := ⟨_, rfl⟩
  have B1 : Hid (Below w.heap.size w W1) := by rw [hW1]; exact ((Below.refl _ _).alloc (Nat.le_refl _) _).alloc (by simp) _
  have XO : Hid (PlnAt W1 b 0 old) := by rw [hW1, hb]; exact (two_new w old new 51).1
  have XN : Hid (PlnAt W1 (b + 1) 0 new) := by rw [hW1, hb]; exact (two_new w old new 51).2
  have C1 := Lib.hid (HasR_any old s W1 (hO.next B1.out) n1)
  have C2 := Lib.hid (fun c w2 (h : Below w.heap.size w w2) => HasR_any new c w2 (N0.out.next h) n2)
  have C3 := Lib.hid (fun c w2 (h : Below w.heap.size w w2) (hc : c.size ≤ 1000000000000) => ParentR_any c w2 (E0.out.below h) hc)
  obtain ⟨R, hR⟩ : ∃ R, R = nxt old new s := ⟨_, rfl⟩
  have HR := Lib.hid hR
  have WAY := Lib.hid (nxt_way old new s)
  obtain ⟨M, hM⟩ : ∃ M, M = new.ms.length := ⟨_, rfl⟩
  have HM := Lib.hid hM
  rw [← hR] at WAY ⊢
  have o0 := XO.out.1; have o1 := XO.out.2.1; have o2 := XO.out.2.2.1; have o3 := XO.out.2.2.2.1; have o4 := XO.out.2.2.2.2
  unfold Pln.val at C1 C2 ⊢
  unfold Pln.cells at hW1
  rw [← hM] at n3
  clear hE hO hN hM
  cases hq : has old.cs s with
  | false =>
    have hR0 : Hid (R = none) := by
      show R = none
      rw [hR]
      unfold nxt
      rw [hq, if_neg (by simp)]
    rw [hq] at C1
    clear hq hR
    go_enter Tryz.func56, Tryz.ntmps56
    go_wp2_with fail
    rw [← hW1, ← hb]
    clear hW1 hb
    go_wp2_with fail
    refine C1.out.mono ?_
    rintro e w2 ⟨rfl, hb⟩
    have B2 := Lib.hid (B1.out.trans (hb.mono B1.out.size))
    clear hb
    go_wp2_with fail
    go_ret2
    rw [hR0.out]
    exact ⟨rfl, B2.out⟩
  | true =>
    obtain ⟨m, hm1, hm2, hm3⟩ := WAY.out hq
    have HM2 := Lib.hid hm2; have HM3 := Lib.hid hm3
    rw [hq] at C1
    rw [← HM.out] at hm1
    clear hq hR WAY hm2 hm3
    go_enter Tryz.func56, Tryz.ntmps56
    go_wp2_with fail
    rw [← hW1, ← hb]
    clear hW1
    have HB0 := Lib.hid hb
    clear hb
    go_wp2_with fail
    refine C1.out.mono ?_
    rintro e w2 ⟨rfl, hb⟩
    have B2 := Lib.hid (B1.out.trans (hb.mono B1.out.size))
    have X2 := Lib.hid (XN.out.next hb)
    clear hb o0 o1 o2 o3 o4 C1
    go_wp2_with fail
    go_loopw [8] (fun i wr => ∃ k : Nat, k ≤ m ∧ i = .int .i64 k ∧ Below w.heap.size w wr ∧ PlnAt wr (b + 1) 0 new) (fun i _ => M - (intOf i).toNat)
    case atStart => exact ⟨0, Nat.zero_le _, rfl, B2.out, X2.out⟩
    case round =>
      obtain ⟨k, hk, rfl, hbw, hx⟩ := hrel
      have B3 := Lib.hid hbw; have X3 := Lib.hid hx
      have c0 := X3.out.1; have c1 := X3.out.2.1; have c2 := X3.out.2.2.1; have c3 := X3.out.2.2.2.1; have c4 := X3.out.2.2.2.2
      rw [← HM.out] at c4
      have zb0 : b + 1 < wr.heap.size := hx.lt
      by_cases hkn : k < M
      · obtain ⟨y, hy⟩ : ∃ y, new.ms[k]? = some y := ⟨_, List.getElem?_eq_getElem (by rw [← HM.out]; exact hkn)⟩
        obtain ⟨blk, off, hnp, hpc⟩ := (N0.out.2.next hbw).get hy
        have y0 := hpc.1; have y1 := hpc.2
        have zb := hpc.lt
        have HY := Lib.hid hy
        have hkd : decide ((k : Int) < (M : Int)) = true := by simp; omega
        rw [hnp] at c4
        clear hbw hx hpc hy hnp
        by_cases s1 : y.c = s
        · have f1 := ba_eq' s1
          have hR1 : Hid (R = some y.t) := by
            show R = some y.t
            rcases HM3.out with ⟨h1, _⟩ | ⟨x, h1, h2, h3⟩
            · exact absurd s1 (HM2.out k y (by have := HM.out; omega) HY.out)
            · rcases (show k < m ∨ k = m by omega) with g | g
              · exact absurd s1 (HM2.out k y g HY.out)
              · subst g
                obtain rfl : y = x := Option.some.inj (HY.out.symm.trans h1)
                exact h3
          clear s1
          go_wp2_with fail
          go_ret2
          rw [hR1.out]
          exact ⟨rfl, B3.out⟩
        · have f1 := ba_ne' s1
          have hkm : k < m := by
            rcases HM3.out with ⟨h1, _⟩ | ⟨x, h1, h2, h3⟩
            · have := HM.out; omega
            · rcases (show k < m ∨ k = m by omega) with g | g
              · exact g
              · subst g
                obtain rfl : y = x := Option.some.inj (HY.out.symm.trans h1)
                exact absurd h2 s1
          clear s1
          go_wp2_with fail
          go_roundw
          case rel => exact ⟨k + 1, hkm, by go_num, B3.out, X3.out⟩
          case measure => simp [intOf]; omega
      · have hkd : decide ((k : Int) < (M : Int)) = false := by simp; omega
        have HRn : Hid (nearF new.cs 8 s = R) := by
          show _ = _
          rcases HM3.out with ⟨h1, h2⟩ | ⟨x, h1, _⟩
          · exact h2.symm
          · have := (List.getElem?_eq_some_iff.1 h1).1
            have := HM.out
            omega
        clear hbw hx
        go_wp2_with fail
        clear hkd c0 c1 c2 c3 c4 HM3 HM2
        go_loopw [9, 10] (fun i o wr => (∃ (c : ByteArray) (n : Nat), i = .string c ∧ o = .bool true ∧ nearF new.cs n c = R ∧ depth c < n ∧ c.size ≤ 1000000000000 ∧ Below w.heap.size w wr ∧ PlnAt wr (b + 1) 0 new) ∨ (i = .string ⟨#[]⟩ ∧ o = .bool false ∧ R = none ∧ Below w.heap.size w wr ∧ PlnAt wr (b + 1) 0 new)) (fun i o _ => strD i o)
        case atStart => exact .inl ⟨s, 8, rfl, rfl, HRn.out, by have := depth_le s; omega, hs, B3.out, X3.out⟩
        case round =>
          rcases hrel with ⟨c, n, rfl, rfl, hc, hd, hz, hb, hx⟩ | ⟨rfl, rfl, hR, hb, hx⟩
          · have NB := Lib.hid hb; have NX := Lib.hid hx
            have HC := Lib.hid hc
            obtain ⟨n, rfl⟩ : ∃ m, n = m + 1 := ⟨n - 1, by omega⟩
            have b0 := hx.1; have b1 := hx.2.1; have b2 := hx.2.2.1; have b3 := hx.2.2.2.1; have b4 := hx.2.2.2.2
            have D1 := Lib.hid (C2.out c wr hb)
            clear hb hx hc
            by_cases hh : has new.cs c = true
            · have hR : Hid (R = some c) := by have := HC.out; rw [nearF_stop hh] at this; exact this.symm
              rw [hh] at D1
              clear hh
              go_wp2_with fail
              refine D1.out.mono ?_
              rintro e w1 ⟨rfl, hb⟩
              have NB1 := Lib.hid (NB.out.trans (hb.mono NB.out.size))
              clear hb
              go_wp2_with fail
              go_ret2
              rw [hR.out]
              exact ⟨rfl, NB1.out⟩
            · have hh2 : has new.cs c = false := by simpa using hh
              rw [hh2] at D1
              clear hh2
              go_wp2_with fail
              refine D1.out.mono ?_
              rintro e w1 ⟨rfl, hb⟩
              have NB1 := Lib.hid (NB.out.trans (hb.mono NB.out.size))
              have NX1 := Lib.hid (NX.out.next hb)
              clear hb
              go_wp2_with fail
              refine (C3.out c _ NB1.out hz).mono ?_
              rintro e w2 ⟨rfl, hb⟩
              have NB2 := Lib.hid (NB1.out.trans (hb.mono NB1.out.size))
              have NX2 := Lib.hid (NX1.out.next hb)
              clear hb
              cases hp : par c with
              | none =>
                have hR : Hid (R = none) := by have := HC.out; rw [nearF_none hh hp] at this; exact this.symm
                clear hh hp
                unfold optV
                go_wp2_with fail
                go_roundw
                case rel => exact .inr ⟨rfl, rfl, hR.out, NB2.out, NX2.out⟩
                case measure => simp [strD]
              | some q =>
                have hR : Hid (nearF new.cs n q = R) := by have := HC.out; rw [nearF_some hh hp] at this; exact this
                have hq := par_depth hp
                have hz2 := par_size hp
                clear hh hp
                unfold optV
                go_wp2_with fail
                go_roundw
                case rel => exact .inl ⟨q, n, rfl, rfl, hR.out, by omega, by omega, NB2.out, NX2.out⟩
                case measure => simp [strD]; omega
          · have NB := Lib.hid hb
            subst hR
            clear hb hx
            go_wp2_with fail
            go_ret2
            exact ⟨rfl, NB.out⟩

end Go.Proofs.YtbjbioiggjhknaaGreatDoor
