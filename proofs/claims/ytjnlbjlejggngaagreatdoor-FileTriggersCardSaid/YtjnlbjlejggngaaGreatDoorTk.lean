/-
  The reference's Known. No statement of the seat is proved here.
-/
import Derived.Test.YtjnlbjlejggngaaGreatDoorFt
namespace Go.Proofs.YtjnlbjlejggngaaGreatDoor
open Go Go.RowKit

set_option maxRecDepth 100000 in
set_option maxHeartbeats 8000000 in
theorem KnownR_any (x : Fil) (d : Int) (w : World) (hP : NtsAt w x.np x.ns) (hn : x.ns.length ≤ 1000000000) :
    Calls Tryz.prog 28 #[x.val, .int .i64 d] w fun e w' => ∃ v, e = .returned v ∧ w'.ownsRow w.heap.size 62 4 v (kn x.ns d).length (ntC (kn x.ns d)) ∧ Below w.heap.size w w' := by
  unfold kn
  obtain ⟨PP, hPP⟩ : ∃ P : Nt → Bool, P = fun x => decide (x.r ≤ d) := ⟨_, rfl⟩
  rw [← hPP]
  have HPP := Lib.hid hPP
  obtain ⟨i0, hi, hz0, hz1, hz2⟩ := info_parts info62
  obtain ⟨n, hl⟩ : ∃ n, x.ns.length = n := ⟨_, rfl⟩
  rw [hl] at hn
  obtain ⟨W1, hW1⟩ : ∃ W1, W1 = w.alloc (.cells x.cells 48) := ⟨_, rfl⟩
  obtain ⟨b, hb0⟩ : ∃ b, b = w.heap.size := ⟨_, rfl⟩
  have K1 : Hid (Below w.heap.size w W1) := by rw [hW1]; exact (Below.refl _ _).alloc (Nat.le_refl _) _
  have X1 : Hid (FilAt W1 b 0 x) := by rw [hW1, hb0]; exact fil_new w x 48
  have HP := Lib.hid (hP.next K1.out); have HL := Lib.hid hl
  have zW : w.heap.size ≤ W1.heap.size := K1.out.size
  have HBS : Hid (b + 1 = W1.heap.size) := by rw [hW1, hb0]; show _ = _; rw [World.size_alloc]
  have HC7 : Hid (∀ wr, Below W1.heap.size W1 wr → wr.cell? ⟨b, 7, none⟩ = some (.slice x.np n x.nc)) := fun wr h => by
    have := (X1.out.next h).c7
    rwa [HL.out] at this
  unfold Fil.val
  unfold Fil.cells at hW1 ⊢
  rw [hl] at hW1 ⊢
  clear hP hl hPP
  go_enter Tryz.func28, Tryz.ntmps28
  go_wp2_with fail
  rw [← hW1, ← hb0]
  clear hW1 hb0
  have LT := Lib.hid (World.ownsRow_lit (base := W1.heap.size) (e := 62) (size := 4) W1 #[] 0 (Nat.le_refl _) (Nat.zero_le _) rfl)
  go_wp2_with fail
  go_loopw [5, 6] (fun v i wr => ∃ k : Nat, k ≤ n ∧ i = .int .i64 k ∧ wr.ownsRow W1.heap.size 62 4 v ((x.ns.take k).filter PP).length (ntC ((x.ns.take k).filter PP)) ∧ Below W1.heap.size W1 wr) (fun _ i _ => n - (intOf i).toNat)
  case atStart => exact ⟨0, Nat.zero_le _, rfl, by rw [HBS.out]; exact LT.out, (Below.refl _ _).alloc (Nat.le_refl _) _⟩
  case round =>
    obtain ⟨k, hk, rfl, hrow, hb⟩ := hrel
    have NB := Lib.hid hb
    have RW := Lib.hid hrow
    have c7 := HC7.out wr hb
    by_cases hkn : k < n
    · obtain ⟨y, hy⟩ : ∃ y, x.ns[k]? = some y := ⟨_, List.getElem?_eq_getElem (by rw [HL.out]; exact hkn)⟩
      obtain ⟨blk, off, hnp, hpc⟩ := HP.out.get hy
      have PW := Lib.hid (hpc.next hb)
      have HT : Hid (x.ns.take (k + 1) = x.ns.take k ++ [y]) := by
        obtain ⟨h1, h2⟩ := List.getElem?_eq_some_iff.1 hy
        show _ = _
        rw [List.take_succ_eq_append_getElem h1, h2]
      have HLen : ((x.ns.take k).filter PP).length ≤ k := by
        have := List.length_filter_le PP (x.ns.take k)
        rw [List.length_take] at this
        omega
      have hkd : decide ((k : Int) < (n : Int)) = true := by simp; omega
      have q0 := PW.out.1; have q1 := PW.out.2.1; have q2 := PW.out.2.2.1; have q3 := PW.out.2.2.2
      have zb := PW.out.lt
      rw [hnp] at c7
      clear hb hrow hpc hy hnp
      by_cases hQ : y.r ≤ d
      · have eQ : decide (y.r ≤ d) = true := decide_eq_true hQ
        have HF : Hid ((x.ns.take (k + 1)).filter PP = (x.ns.take k).filter PP ++ [y]) := by
          show _ = _
          rw [HT.out, List.filter_append, List.filter_cons_of_pos (by rw [HPP.out]; exact eQ)]
          simp
        have zB := NB.out.size
        clear hQ
        go_wp2_with (at_builtin; refine wpList_append_own _ rfl _ _ 46 rfl W1.heap.size 62 i0 _ 4 40 Tryz.underlying46 hi hz0 hz1 hz2 rfl (by decide) _ _ _ rfl (RW.out.alloc _) ⟨wr.heap.size, 0, none⟩ 1 1 y.cells rfl rfl (nt_news wr y 62) (nt_one y) (by unfold maxLen; omega) (by omega) (by simp; omega) ?_; intro v' w3 hown' hgrow _)
        have B3 : Hid (Below W1.heap.size W1 w3) := (NB.out.alloc zB _).grown hgrow (by simp; omega) (fun k e => (RW.out.lt k e).1)
        have R3 : Hid (w3.ownsRow W1.heap.size 62 4 v' ((x.ns.take (k + 1)).filter PP).length (ntC ((x.ns.take (k + 1)).filter PP))) := by
          show w3.ownsRow _ _ _ _ _ _
          rw [HF.out, ntC_snoc, List.length_append]
          exact hown'
        clear hown' hgrow
        go_wp2_with fail
        go_roundw
        case rel => exact ⟨k + 1, hkn, by go_num, R3.out, B3.out⟩
        case measure => simp [intOf]; omega
      · have eQ : decide (y.r ≤ d) = false := decide_eq_false hQ
        have HF : Hid ((x.ns.take (k + 1)).filter PP = (x.ns.take k).filter PP) := by
          show _ = _
          rw [HT.out, List.filter_append, List.filter_cons_of_neg (by rw [HPP.out]; simpa using eQ)]
          simp
        clear hQ
        go_wp2_with fail
        go_roundw
        case rel => exact ⟨k + 1, hkn, by go_num, by rw [HF.out]; exact RW.out, NB.out⟩
        case measure => simp [intOf]; omega
    · have hkd : decide ((k : Int) < (n : Int)) = false := by simp; omega
      have hkn2 : k = n := by omega
      have R3 : Hid (wr.ownsRow w.heap.size 62 4 u5 (x.ns.filter PP).length (ntC (x.ns.filter PP))) := by
        have := RW.out
        rw [hkn2, ← HL.out, List.take_length] at this
        exact Go.Joins.ownsRow_le this zW
      have B3 : Hid (Below w.heap.size w wr) := K1.out.trans (NB.out.mono zW)
      clear hb hrow hkn2
      go_wp2_with fail
      go_ret
      exact ⟨_, rfl, R3.out, B3.out⟩

end Go.Proofs.YtjnlbjlejggngaaGreatDoor
