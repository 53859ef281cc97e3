/-
  Check: the first version that is wrong. No statement of the seat is proved here.
-/
import Derived.Test.YtbjbioiggjhknaaDoorCv
namespace Go.Proofs.YtbjbioiggjhknaaDoor
open Go Go.RowKit

theorem ret_ii {a b c d : Int} (h1 : a = c) (h2 : b = d) : Ending.returned (.tuple #[.int .i64 a, .int .i64 b]) = .returned (.tuple #[.int .i64 c, .int .i64 d]) := by rw [h1, h2]

theorem version_any (p : Option Addr) (i cap : Nat) (x : Pln) (l : List Pln) (w : World) (hE : Env w) (hL : PlnsAt w p l) (hx : l[i]? = some x) (hi : i ≤ 16) (hF : ∀ y ∈ l, Fit y) (hP : PlnOk w x) :
    Calls Tryd.prog 12 #[.slice p i cap, x.val] w fun e w' => e = .returned (.int .i64 (atE l i)) ∧ Below w.heap.size w w' := by
  have hlt : i < l.length := (List.getElem?_eq_some_iff.1 hx).1
  have e : atE l i = vrsE (if i = 0 then none else l[i - 1]?) i x := by unfold atE; rw [hx]
  rw [e]
  by_cases h0 : i = 0
  · subst h0
    rw [if_pos rfl]
    exact checkVersion_first p cap x w hE hP (hF x (List.mem_of_getElem? hx))
  · rw [if_neg h0]
    obtain ⟨o, ho⟩ : ∃ o, l[i - 1]? = some o := ⟨_, List.getElem?_eq_getElem (by omega)⟩
    rw [ho]
    refine checkVersion_later p i cap o x (l.take i) w hE ?_ (by rw [List.length_take]; omega) hi (by omega) (by rw [List.getElem?_take]; rw [if_pos (by omega)]; exact ho) hP (hF x (List.mem_of_getElem? hx)) (hF o (List.mem_of_getElem? ho))
    rcases hL with h | ⟨blk, off, hp, h⟩
    · subst h; simp at hx
    · refine .inr ⟨blk, off, hp, fun j y hy => h j y ?_⟩
      rw [List.getElem?_take] at hy
      split at hy
      · exact hy
      · cases hy

set_option maxRecDepth 100000 in
set_option maxHeartbeats 8000000 in
theorem Check_loop (p : Option Addr) (n cap m : Nat) (l : List Pln) (w : World) (hE : Env w) (hL : PlnsAt w p l) (hl : l.length = n) (hn : n ≤ 16) (hc : n ≤ cap) (hF : ∀ y ∈ l, Fit y) (hm : m ≤ n) (hv : ∀ i, i < m → atE l i = 0) (I E : Int)
    (hr : (m = n ∧ I = -1 ∧ E = 0) ∨ (m < n ∧ atE l m = E ∧ E ≠ 0 ∧ I = m)) :
    Calls Tryd.prog 5 #[.slice p n cap] w fun e w' => e = .returned (.tuple #[.int .i64 I, .int .i64 E]) ∧ Below w.heap.size w w' := by
  have L0 := Lib.hid hL; have HV := Lib.hid hv; have HR := Lib.hid hr; have E0 := Lib.hid hE; have HL := Lib.hid hl; have HF := Lib.hid hF
  have hbig : decide ((n : Int) > 16) = false := by simp; omega
  clear hL hv hr hE hl hF
  go_enter Tryd.func5, Tryd.ntmps5
  go_wp2_with fail
  go_loopw [11] (fun i wr => ∃ k : Nat, k ≤ m ∧ i = .int .i64 k ∧ Below w.heap.size w wr) (fun i _ => n - (intOf i).toNat)
  case atStart => exact ⟨0, Nat.zero_le _, rfl, by go_grown⟩
  case round =>
    obtain ⟨k, hk, rfl, hb⟩ := hrel
    have NB := Lib.hid hb
    by_cases hkn : k < n
    · obtain ⟨x, hx⟩ : ∃ x, l[k]? = some x := ⟨_, List.getElem?_eq_getElem (by rw [HL.out]; omega)⟩
      obtain ⟨blk, off, rfl, hpx, hkx⟩ := L0.out.get hx
      have PX := Lib.hid (hpx.next hb); have KX := Lib.hid (hkx.next hb)
      have C1 := Lib.hid (fun w1 (h1 : Below w.heap.size w w1) => version_any (some ⟨blk, off, none⟩) k cap x l w1 (E0.out.below h1) (L0.out.next h1) hx (by omega) HF.out (hkx.next h1))
      have hkd : decide ((k : Int) < (n : Int)) = true := by simp; omega
      have hkz : (k : Int) < (n : Int) := by omega
      have hkc : (k : Int) ≤ (cap : Int) := by omega
      have hkc2 : k ≤ cap := by omega
      have hkc3 : (n : Int) ≤ (cap : Int) := by omega
      have hkn2 : k ≤ n := by omega
      have x0 := PX.out.1; have x1 := PX.out.2.1; have x2 := PX.out.2.2.1; have x3 := PX.out.2.2.2.1; have x4 := PX.out.2.2.2.2
      have zb := PX.out.lt
      have HX := Lib.hid hx
      unfold Pln.val at C1
      obtain ⟨A, hA⟩ : ∃ A, A = atE l k := ⟨_, rfl⟩
      rw [← hA] at C1
      have HA := Lib.hid hA
      clear hb hpx hkx hx hA
      go_wp2_with fail
      go_region_held3 (fun v => v.cell? ⟨blk, off + k * 5, none⟩ = some (.int .i64 x.v) ∧ v.cell? ⟨blk, off + k * 5 + 1, none⟩ = some (.int .i64 x.f) ∧ v.cell? ⟨blk, off + k * 5 + 2, none⟩ = some (.int .i64 x.u) ∧ v.cell? ⟨blk, off + k * 5 + 3, none⟩ = some (.slice x.cp x.cs.length x.cc) ∧ v.cell? ⟨blk, off + k * 5 + 4, none⟩ = some (.slice x.mp x.ms.length x.mc)) (first | exact PX.out | assumption)
        ((first
          | (go_at_call 12; refine (C1.out _ (below_drewN NB.out 1)).mono ?_; rintro e w2 ⟨rfl, hb2⟩; have B2 : Hid (Below w.heap.size w w2) := (below_drewN NB.out 1).trans (hb2.mono NB.out.size); have hs2 : w2.cell? ⟨blk, off + k * 5, none⟩ = some (.int .i64 x.v) ∧ w2.cell? ⟨blk, off + k * 5 + 1, none⟩ = some (.int .i64 x.f) ∧ w2.cell? ⟨blk, off + k * 5 + 2, none⟩ = some (.int .i64 x.u) ∧ w2.cell? ⟨blk, off + k * 5 + 3, none⟩ = some (.slice x.cp x.cs.length x.cc) ∧ w2.cell? ⟨blk, off + k * 5 + 4, none⟩ = some (.slice x.mp x.ms.length x.mc) := PlnAt.next (show PlnAt wr.drew blk (off + k * 5) x from PX.out) hb2)))
      clear hb2 hs2
      by_cases hA0 : A = 0
      · have d : (A != 0) = false := by simp [hA0]
        have hkm : k < m := by
          rcases HR.out with h | ⟨h1, h2, h3, h4⟩
          · omega
          · rcases (show k < m ∨ k = m by omega) with g | g
            · exact g
            · subst g
              exact absurd (h2.symm.trans (HA.out.symm.trans hA0)) h3
        clear hA0
        go_wp2_with fail
        go_roundw
        case rel => exact ⟨k + 1, by omega, by go_num, B2.out⟩
        case measure => simp [intOf]; omega
      · have d : (A != 0) = true := by simp [hA0]
        have hR : Hid (I = k ∧ E = A) := by
          show I = k ∧ E = A
          rcases HR.out with ⟨h1, h2, h3⟩ | ⟨h1, h2, h3, h4⟩
          · exact absurd (HA.out.trans (HV.out k (by omega))) hA0
          · rcases (show k < m ∨ k = m by omega) with g | g
            · exact absurd (HA.out.trans (HV.out k g)) hA0
            · subst g
              exact ⟨h4, (HA.out.trans h2).symm⟩
        clear hA0
        go_wp2_with fail
        go_ret2
        exact ⟨ret_ii hR.out.1.symm hR.out.2.symm, B2.out⟩
    · have hkd : decide ((k : Int) < (n : Int)) = false := by simp; omega
      have hR : Hid (I = -1 ∧ E = 0) := by
        show I = -1 ∧ E = 0
        rcases HR.out with ⟨h1, h2, h3⟩ | ⟨h1, h2, h3, h4⟩
        · exact ⟨h2, h3⟩
        · omega
      clear hb
      go_wp2_with fail
      go_ret2
      exact ⟨ret_ii hR.out.1.symm hR.out.2.symm, NB.out⟩

set_option maxHeartbeats 2000000 in
theorem Check_long (p : Option Addr) (n cap : Nat) (w : World) (h : 16 < n) :
    Calls Tryd.prog 5 #[.slice p n cap] w fun e w' => e = .returned (.tuple #[.int .i64 (-1), .int .i64 8]) ∧ Below w.heap.size w w' := by
  have hbig : decide ((n : Int) > 16) = true := by simp; omega
  clear h
  go_enter Tryd.func5, Tryd.ntmps5
  go_wp2_with fail
  go_ret2
  exact ⟨rfl, by go_grown⟩

theorem Check_any (p : Option Addr) (n cap : Nat) (l : List Pln) (w : World) (hE : Env w) (hL : PlnsAt w p l) (hl : l.length = n) (hc : n ≤ cap) (hF : ∀ y ∈ l, Fit y) (I E : Int) (h : ChkIs l I E) :
    Calls Tryd.prog 5 #[.slice p n cap] w fun e w' => e = .returned (.tuple #[.int .i64 I, .int .i64 E]) ∧ Below w.heap.size w w' := by
  rcases h with ⟨h1, rfl, rfl⟩ | ⟨h1, h2, rfl, rfl⟩ | ⟨i, h1, h2, h3, h4, h5, rfl⟩
  · exact Check_long p n cap w (by omega)
  · exact Check_loop p n cap n l w hE hL hl (by omega) hc hF (Nat.le_refl _) (fun i hi => h2 i (by omega)) _ _ (.inl ⟨rfl, rfl, rfl⟩)
  · exact Check_loop p n cap i l w hE hL hl (by omega) hc hF (by omega) h3 _ _ (.inr ⟨by omega, h4, h5, rfl⟩)

end Go.Proofs.YtbjbioiggjhknaaDoor
