/-
  codesOf and Sources of plan. No statement of the seat is proved here.
-/
import Derived.Test.YtbjbioiggjhknaaDoorFo
import Derived.Test.YtbjbioiggjhknaaDoorFj
import Derived.Deep.RegionHeld3
namespace Go.Proofs.YtbjbioiggjhknaaDoor
open Go Go.RowKit

theorem info9 : (Tryd.prog.info? 9).map (fun i => (i.zero, i.size, i.bytes)) = some (some (.string ⟨#[]⟩), 1, 16) := by kernel_rfl
def strC (l : List Pr) : List Value := l.map fun y => .string y.c
theorem strC_snoc (y : Pr) (l : List Pr) : strC (l ++ [y]) = strC l ++ [.string y.c] := by unfold strC; simp
theorem strC_len (l : List Pr) : (strC l).length = l.length := by unfold strC; simp
theorem str_news (w : World) (s : ByteArray) (t : TypeId) : ∀ j u, ([.string s] : List Value)[j]? = some u → (w.alloc (.cells ([.string s] : List Value).toArray t)).cell? ((⟨w.heap.size, 0, none⟩ : Addr).add j) = some u := fun j u h => by
  rw [Addr.add_lit, Nat.zero_add, World.cell?_alloc_new]
  simpa using h
theorem str_one (s : ByteArray) : ∀ u ∈ ([.string s] : List Value), u.oneCell' = true := by
  intro v hv
  simp only [List.mem_cons, List.not_mem_nil, or_false] at hv
  subst hv
  rfl
theorem pr_new (w : World) (y : Pr) (t : TypeId) : PrAt (w.alloc (.cells #[.string y.c, .string y.t] t)) w.heap.size 0 y :=
  ⟨World.cell?_alloc_new w _ t 0, World.cell?_alloc_new w _ t 1⟩

set_option maxRecDepth 100000 in
set_option maxHeartbeats 8000000 in
theorem codesOf66 (x : Pln) (b1 b2 : Nat) (P : Pr → Bool) (Inv : World → Prop) (hI : ∀ w w' : World, Inv w → Below w.heap.size w w' → Inv w')
    (hC : ∀ y ∈ x.cs, ∀ w : World, Inv w → Calls Tryd.prog 17 #[.string y.c, .pointer (some ⟨b1, 0, none⟩), .pointer (some ⟨b2, 0, none⟩)] w fun e w' => e = .returned (.bool (P y)) ∧ Below w.heap.size w w')
    (w : World) (hP : PrsAt w x.cp x.cs) (h0 : Inv w) (hn : x.cs.length ≤ 1000000000) :
    Calls Tryd.prog 16 #[x.val, .func (.func 17) #[] #[.pointer (some ⟨b1, 0, none⟩), .pointer (some ⟨b2, 0, none⟩)]] w fun e w' => ∃ v, e = .returned v ∧ w'.ownsRow w.heap.size 9 1 v (x.cs.filter P).length (strC (x.cs.filter P)) ∧ Below w.heap.size w w' := by
  obtain ⟨i0, hi, hz0, hz1, hz2⟩ := info_parts info9
  obtain ⟨n, hl⟩ : ∃ n, x.cs.length = n := ⟨_, rfl⟩
  rw [hl] at hn
  obtain ⟨W1, hW1⟩ : ∃ W1, W1 = w.alloc (.cells #[.int .i64 x.v, .int .i64 x.f, .int .i64 x.u, .slice x.cp x.cs.length x.cc, .slice x.mp x.ms.length x.mc] 34) := ⟨_, rfl⟩
  have K1 : Hid (Below w.heap.size w W1) := by rw [hW1]; exact (Below.refl _ _).alloc (Nat.le_refl _) _
  have d3 : W1.cell? ⟨w.heap.size, 3, none⟩ = some (.slice x.cp n x.cc) := by
    rw [hW1, hl]
    exact World.cell?_alloc_new w _ 34 3
  have HP := Lib.hid (hP.next K1.out); have HC := Lib.hid hC; have HI := Lib.hid hI; have H0 := Lib.hid (hI _ _ h0 K1.out); have HL := Lib.hid hl
  unfold Pln.val
  rw [hl] at hW1 ⊢
  have zW : w.heap.size ≤ W1.heap.size := K1.out.size
  clear hP hC hI h0 hl
  go_enter Tryd.func16, Tryd.ntmps16
  go_wp2_with fail
  rw [← hW1]
  clear hW1
  go_wp2_with fail
  go_loopw [5, 11] (fun v i wr => ∃ k : Nat, k ≤ n ∧ i = .int .i64 k ∧ wr.ownsRow W1.heap.size 9 1 v ((x.cs.take k).filter P).length (strC ((x.cs.take k).filter P)) ∧ Below W1.heap.size W1 wr) (fun _ i _ => n - (intOf i).toNat)
  case atStart => exact ⟨0, Nat.zero_le _, rfl, World.ownsRow_nil _ _ _ _, Below.refl _ _⟩
  case round =>
    obtain ⟨k, hk, rfl, hrow, hb⟩ := hrel
    have NB := Lib.hid hb
    have RW := Lib.hid hrow
    by_cases hkn : k < n
    · obtain ⟨y, hy⟩ : ∃ y, x.cs[k]? = some y := ⟨_, List.getElem?_eq_getElem (by rw [HL.out]; exact hkn)⟩
      obtain ⟨blk, off, hnp, hpc⟩ := HP.out.get hy
      have PW := Lib.hid (hpc.next hb)
      have C1 := Lib.hid (HC.out y (List.mem_of_getElem? hy))
      have IW := Lib.hid (HI.out _ _ H0.out hb)
      have HT : Hid (x.cs.take (k + 1) = x.cs.take k ++ [y]) := by
        obtain ⟨h1, h2⟩ := List.getElem?_eq_some_iff.1 hy
        show _ = _
        rw [List.take_succ_eq_append_getElem h1, h2]
      have HLen : ((x.cs.take k).filter P).length ≤ k := by
        have := List.length_filter_le P (x.cs.take k)
        rw [List.length_take] at this
        omega
      have hkd : decide ((k : Int) < (n : Int)) = true := by simp; omega
      have q0 := PW.out.1; have q1 := PW.out.2
      have zb := PW.out.lt
      obtain ⟨Q, hQ⟩ : ∃ Q, Q = P y := ⟨_, rfl⟩
      rw [← hQ] at C1
      have HQ := Lib.hid hQ
      clear hb hrow hpc hy hQ
      rw [hnp]
      go_wp2_with fail
      have IV := Lib.hid (HI.out wr (wr.alloc (.cells #[.string y.c, .string y.t] 36)) IW.out ((Below.refl _ _).alloc (Nat.le_refl _) _))
      refine (C1.out _ IV.out).mono ?_
      rintro e w2 ⟨rfl, hb⟩
      have YB := Lib.hid ((pr_new wr y 36).next hb)
      have RW2 := Lib.hid ((RW.out.alloc (.cells #[.string y.c, .string y.t] 36)).kept (row := none) ⟨hb.os, hb.tape, hb.output, hb.size, fun k hk _ => hb.block k hk⟩ (by cases u5.ownBlock <;> simp))
      have B2 : Hid (Below W1.heap.size W1 w2) := NB.out.trans ((((Below.refl _ _).alloc (Nat.le_refl _) _).trans (hb.mono (by simp))).mono NB.out.size)
      have z2 := YB.out.lt
      clear hb q0 q1
      cases Q with
      | false =>
        have HF : Hid ((x.cs.take (k + 1)).filter P = (x.cs.take k).filter P) := by
          show _ = _
          rw [HT.out, List.filter_append, List.filter_cons_of_neg (by rw [← HQ.out]; simp)]
          simp
        go_wp2_with fail
        go_roundw
        case rel => exact ⟨k + 1, hkn, by go_num, by rw [HF.out]; exact RW2.out, B2.out⟩
        case measure => simp [intOf]; omega
      | true =>
        have HF : Hid ((x.cs.take (k + 1)).filter P = (x.cs.take k).filter P ++ [y]) := by
          show _ = _
          rw [HT.out, List.filter_append, List.filter_cons_of_pos (by rw [← HQ.out])]
          simp
        have q0 := YB.out.1; have q1 := YB.out.2
        have zB := B2.out.size
        go_wp2_with (at_builtin; refine wpList_append_own _ rfl _ _ 37 rfl W1.heap.size 9 i0 _ 1 16 Tryd.underlying37 hi hz0 hz1 hz2 rfl (by decide) _ _ _ rfl (RW2.out.alloc _) ⟨w2.heap.size, 0, none⟩ 1 1 [.string y.c] rfl rfl (str_news w2 y.c 9) (str_one y.c) (by unfold maxLen; omega) (by omega) (by simp; omega) ?_; intro v' w3 hown' hgrow _)
        have B3 : Hid (Below W1.heap.size W1 w3) := (B2.out.alloc zB _).grown hgrow (by simp; omega) (fun k e => (RW2.out.lt k e).1)
        have R3 : Hid (w3.ownsRow W1.heap.size 9 1 v' ((x.cs.take (k + 1)).filter P).length (strC ((x.cs.take (k + 1)).filter P))) := by
          show w3.ownsRow _ _ _ _ _ _
          rw [HF.out, strC_snoc, List.length_append]
          exact hown'
        clear hown' hgrow
        go_wp2_with fail
        go_roundw
        case rel => exact ⟨k + 1, hkn, by go_num, R3.out, B3.out⟩
        case measure => simp [intOf]; omega
    · have hkd : decide ((k : Int) < (n : Int)) = false := by simp; omega
      have hkn2 : k = n := by omega
      have R3 : Hid (wr.ownsRow w.heap.size 9 1 u5 (x.cs.filter P).length (strC (x.cs.filter P))) := by
        have := RW.out
        rw [hkn2, ← HL.out, List.take_length] at this
        exact Go.Joins.ownsRow_le this zW
      have B3 : Hid (Below w.heap.size w wr) := K1.out.trans (NB.out.mono zW)
      clear hb hrow hkn2
      go_wp2_with fail
      go_ret
      exact ⟨_, rfl, R3.out, B3.out⟩

set_option maxRecDepth 100000 in
set_option maxHeartbeats 8000000 in
theorem src66_any (y : Pr) (b1 b2 : Nat) (p : Option Addr) (n cap : Nat) (L : List Pln) (s : ByteArray) (w : World) (hE : Env w) (hL : PlnsAt w p L) (hl : L.length = n) (h0 : 0 < n) (hn : n ≤ 100) (hF : ∀ z ∈ L, Fit z) (hs : y.c.size ≤ 140737488355328)
    (c1 : w.cell? ⟨b1, 0, none⟩ = some (.slice p n cap)) (c2 : w.cell? ⟨b2, 0, none⟩ = some (.string s)) :
    Calls Tryd.prog 17 #[.string y.c, .pointer (some ⟨b1, 0, none⟩), .pointer (some ⟨b2, 0, none⟩)] w fun e w' => e = .returned (.bool (decide (walkF L y.c = s))) ∧ Below w.heap.size w w' := by
  have FW := Lib.hid (fun w2 (h : Below w.heap.size w w2) => follow_any p n cap L y.c w2 (hE.below h) (hL.next h) hl h0 hn hF hs)
  obtain ⟨R, hR⟩ : ∃ R, R = walkF L y.c := ⟨_, rfl⟩
  rw [← hR] at FW ⊢
  obtain ⟨B, hB⟩ : ∃ B, B = decide (R = s) := ⟨_, rfl⟩
  rw [← hB]
  have e1 : (R.toList == s.toList) = B := by
    rw [hB]
    by_cases h : R = s
    · rw [ba_eq' h, decide_eq_true h]
    · rw [ba_ne' h, decide_eq_false h]
  have C1 := Lib.hid c1; have C2 := Lib.hid c2
  have D1 : Hid (w.drew.cell? ⟨b1, 0, none⟩ = some (.slice p n cap) ∧ w.drew.cell? ⟨b2, 0, none⟩ = some (.string s)) := ⟨c1, c2⟩
  have z1 := World.block_lt_of_cell? w _ c1; have z2 := World.block_lt_of_cell? w _ c2
  clear hE hL hl hF hR hB
  go_enter Tryd.func17, Tryd.ntmps17
  go_wp2_with fail
  go_region_held3 (fun v => v.cell? ⟨b1, 0, none⟩ = some (.slice p n cap) ∧ v.cell? ⟨b2, 0, none⟩ = some (.string s)) (first | with_reducible exact D1.out | with_reducible exact ⟨c1, c2⟩ | with_reducible assumption | exact D1.out | assumption)
    (first
      | (go_at_call 18; (with_reducible refine (FW.out _ ?_).mono ?_); (exact below_drewN (Below.refl _ _) 1); rintro e w2 ⟨rfl, hb⟩
         have hs2 : w2.cell? ⟨b1, 0, none⟩ = some (.slice p n cap) ∧ w2.cell? ⟨b2, 0, none⟩ = some (.string s) := ⟨cell_next D1.out.1 hb, cell_next D1.out.2 hb⟩
         have B2 : Hid (Below w.heap.size w w2) := (below_drewN (Below.refl _ _) 1).trans hb))
  all_goals
    go_wp2_with fail
    go_ret
    exact ⟨rfl, B2.out⟩

/-- What Sources answers. -/
def SrcAns (l : List Pln) (E a b : Int) (s : ByteArray) (B : Nat) (v : Value) (r : Int) (w : World) : Prop :=
  (E ≠ 0 ∧ v = .slice none 0 0 ∧ r = 1) ∨ (E = 0 ∧ (a < 1 ∨ b < a ∨ (l.length : Int) < b) ∧ v = .slice none 0 0 ∧ r = 7) ∨
    (E = 0 ∧ ∃ (a' b' : Nat) (x y : Pln), a = a' ∧ b = b' ∧ 1 ≤ a' ∧ a' ≤ b' ∧ b' ≤ l.length ∧ l[a' - 1]? = some x ∧ l[b' - 1]? = some y ∧ ((has y.cs s = false ∧ v = .slice none 0 0 ∧ r = 7) ∨
      (has y.cs s = true ∧ r = 0 ∧ w.ownsRow B 9 1 v (x.cs.filter fun z => decide (walkF (subl l a' b') z.c = s)).length (strC (x.cs.filter fun z => decide (walkF (subl l a' b') z.c = s))))))

set_option maxRecDepth 100000 in
set_option maxHeartbeats 8000000 in
theorem Sources_any (p : Option Addr) (n cap : Nat) (l : List Pln) (a b : Int) (s : ByteArray) (w : World) (hE : Env w) (hL : PlnsAt w p l) (hl : l.length = n) (hc : n ≤ cap) (hnm : (n : Int) ≤ 4398046511104) (hF : ∀ y ∈ l, Fit y) (I E : Int) (h : ChkIs l I E) (_hs : s.size ≤ 140737488355328) (hN : ∀ y ∈ l, y.cs.length ≤ 1000000000) :
    Calls Tryd.prog 7 #[.slice p n cap, .int .i64 a, .int .i64 b, .string s] w fun e w' => ∃ v r, e = .returned (.tuple #[v, .int .i64 r]) ∧ SrcAns l E a b s w.heap.size v r w' ∧ Below w.heap.size w w' := by
  have hlen : E = 0 → l.length ≤ 16 := fun hz => by
    rcases h with ⟨_, _, h3⟩ | ⟨h1, _⟩ | ⟨i, h1, _⟩
    · omega
    · exact h1
    · exact h1
  obtain ⟨W1, hW1⟩ : ∃ W1, W1 = w.alloc (.cells #[.string s] 9) := ⟨_, rfl⟩
  obtain ⟨b7, hb7⟩ : ∃ b, b = w.heap.size := ⟨_, rfl⟩
  have B1 : Hid (Below w.heap.size w W1) := by rw [hW1]; exact (Below.refl _ _).alloc (Nat.le_refl _) _
  have S1 : Hid (W1.cell? ⟨b7, 0, none⟩ = some (.string s)) := by
    rw [hW1, hb7]
    exact World.cell?_alloc_new w _ 9 0
  have HB := Lib.hid hb7
  have C1 := Lib.hid (between_any p n cap l a b W1 (hE.below B1.out) (hL.next B1.out) hl hc hnm hF I E h)
  have E0 := Lib.hid hE; have HF := Lib.hid hF; have HN := Lib.hid hN; have HLEN := Lib.hid hlen
  clear hE hL hl hF h hN hlen
  go_enter Tryd.func7, Tryd.ntmps7
  go_wp2_with fail
  rw [← hW1, ← hb7]
  clear hW1 hb7
  go_wp2_with fail
  refine C1.out.mono ?_
  rintro e w2 ⟨p2, k, c, r, rfl, hbt, hb⟩
  have B2 : Hid (Below w.heap.size w w2) := B1.out.trans (hb.mono B1.out.size)
  have S2 := Lib.hid (cell_next S1.out hb)
  have BT := Lib.hid hbt
  clear hb hbt C1
  rcases BT.out with ⟨h1, rfl, rfl, rfl, rfl⟩ | ⟨h1, h2, rfl, rfl, rfl, rfl⟩ | ⟨h1, a', b', ha, hb, h2, h3, h4, hk, rfl, hP, hkc⟩
  · have A0 : Hid (∀ w', SrcAns l E a b s w.heap.size (.slice none 0 0) 1 w') := fun w' => .inl ⟨h1, rfl, rfl⟩
    clear h1 BT
    go_wp2_with fail
    exact bodyPost_ret (by simp [results, Tryd.results7, go_sem]) rfl ⟨_, _, rfl, A0.out _, B2.out.alloc B2.out.size _⟩
  · have A0 : Hid (∀ w', SrcAns l E a b s w.heap.size (.slice none 0 0) 7 w') := fun w' => .inr (.inl ⟨h1, h2, rfl, rfl⟩)
    clear h1 h2 BT
    go_wp2_with fail
    exact bodyPost_ret (by simp [results, Tryd.results7, go_sem]) rfl ⟨_, _, rfl, A0.out _, B2.out.alloc B2.out.size _⟩
  · obtain ⟨W3, hW3⟩ : ∃ W3, W3 = w2.alloc (.cells #[.slice p2 k c] 22) := ⟨_, rfl⟩
    obtain ⟨g, hg⟩ : ∃ g, g = w2.heap.size := ⟨_, rfl⟩
    have B3 : Hid (Below w.heap.size w W3) := by rw [hW3]; exact B2.out.alloc B2.out.size _
    have S3 : Hid (W3.cell? ⟨b7, 0, none⟩ = some (.string s)) := by rw [hW3]; exact cell_next S2.out ((Below.refl _ _).alloc (Nat.le_refl _) _)
    have G3 : Hid (W3.cell? ⟨g, 0, none⟩ = some (.slice p2 k c)) := by rw [hW3, hg]; exact World.cell?_alloc_new w2 _ 22 0
    have P3 : Hid (PlnsAt W3 p2 (subl l a' b')) := by rw [hW3]; exact hP.next ((Below.refl _ _).alloc (Nat.le_refl _) _)
    have l16 := HLEN.out h1
    obtain ⟨m, hm⟩ : ∃ m, k = m + 1 := ⟨k - 1, by omega⟩
    obtain ⟨x, hx⟩ : ∃ x, l[a' - 1]? = some x := ⟨_, List.getElem?_eq_getElem (by omega)⟩
    obtain ⟨y, hy⟩ : ∃ y, l[b' - 1]? = some y := ⟨_, List.getElem?_eq_getElem (by omega)⟩
    have hxs : (subl l a' b')[0]? = some x := by
      unfold subl
      rw [List.getElem?_take, if_pos (by omega), List.getElem?_drop, Nat.add_zero]
      exact hx
    have hys : (subl l a' b')[m]? = some y := by
      unfold subl
      rw [List.getElem?_take, if_pos (by omega), List.getElem?_drop, show a' - 1 + m = b' - 1 by omega]
      exact hy
    obtain ⟨blk, off, hp2, hpy, hoy⟩ := P3.out.get hys
    obtain ⟨blk', off', hp2', hpx, hox⟩ := P3.out.get hxs
    obtain ⟨hbb, hoo⟩ : blk' = blk ∧ off' = off := by
      rw [hp2] at hp2'
      simp at hp2'
      exact ⟨hp2'.1.symm, hp2'.2.symm⟩
    subst hbb
    subst hoo
    subst hp2
    have mk : ∀ v r w', ((has y.cs s = false ∧ v = .slice none 0 0 ∧ r = 7) ∨ (has y.cs s = true ∧ r = 0 ∧ w'.ownsRow w.heap.size 9 1 v (x.cs.filter fun z => decide (walkF (subl l a' b') z.c = s)).length (strC (x.cs.filter fun z => decide (walkF (subl l a' b') z.c = s))))) → SrcAns l E a b s w.heap.size v r w' := fun v r w' hv => .inr (.inr ⟨h1, a', b', x, y, ha, hb, h2, h3, h4, hx, hy, hv⟩)
    have MK := Lib.hid mk
    have HA := Lib.hid (fun w4 (hb4 : Below W3.heap.size W3 w4) => Has_any y s w4 (hoy.next hb4) (HF.out y (List.mem_of_getElem? hy)).n1)
    obtain ⟨Q, hQ⟩ : ∃ Q, Q = has y.cs s := ⟨_, rfl⟩
    rw [← hQ] at HA MK
    have hslen : (subl l a' b').length = k := by rw [subl_len h2 h3 h4]; omega
    have CD := Lib.hid (fun w4 (hb4 : Below W3.heap.size W3 w4) => codesOf66 x g b7 (fun z => decide (walkF (subl l a' b') z.c = s)) (fun w5 => Below W3.heap.size W3 w5) (fun _ _ h h' => h.trans (h'.mono h.size))
      (fun z hz w5 h5 => src66_any z g b7 _ k c (subl l a' b') s w5 (E0.out.below (B3.out.trans (h5.mono B3.out.size))) (P3.out.next h5) hslen (by omega) (by omega) (fun q hq => by
        obtain ⟨j, hj⟩ := List.getElem?_of_mem hq
        exact HF.out q (List.mem_of_getElem? (subl_get hj).2)) ((HF.out x (List.mem_of_getElem? hx)).z1 z hz).1 (cell_next G3.out h5) (cell_next S3.out h5)) w4 (hox.1.next hb4) hb4 (HN.out x (List.mem_of_getElem? hx)))
    have PX := Lib.hid hpx; have PY := Lib.hid hpy
    have m16 : m ≤ 15 := by omega
    have hwm : IntKind.i64.wrap ((k : Int) - 1) = (m : Int) := by rw [show ((k : Int) - 1) = (m : Int) by omega]; exact IntWalk.i64_in _ (by omega)
    have hmk : m < k := by omega
    have hk0 : 0 < k := by omega
    have hmi : (m : Int) < (k : Int) := by omega
    have hm0 : (0 : Int) ≤ (m : Int) := by omega
    clear hm h1 ha hb h2 h3 h4 hk hP hkc hx hy hxs hys hpy hpx hoy hox hp2' mk hslen hQ BT l16 HF HN
    go_wp2_with fail
    try rw [← hW3]
    try rw [← hg]
    clear hW3 hg
    have SS : Hid (∀ v : World, Below W3.heap.size W3 v → (v.cell? ⟨g, 0, none⟩ = some (.slice (some ⟨blk', off', none⟩) k c) ∧ v.cell? ⟨b7, 0, none⟩ = some (.string s) ∧ v.cell? ⟨blk', off' + m * 5, none⟩ = some (.int .i64 y.v) ∧ v.cell? ⟨blk', off' + m * 5 + 1, none⟩ = some (.int .i64 y.f) ∧ v.cell? ⟨blk', off' + m * 5 + 2, none⟩ = some (.int .i64 y.u) ∧ v.cell? ⟨blk', off' + m * 5 + 3, none⟩ = some (.slice y.cp y.cs.length y.cc) ∧ v.cell? ⟨blk', off' + m * 5 + 4, none⟩ = some (.slice y.mp y.ms.length y.mc))) := fun v hb => by
      have q := PY.out.next hb
      exact ⟨cell_next G3.out hb, cell_next S3.out hb, q.1, q.2.1, q.2.2.1, q.2.2.2.1, q.2.2.2.2⟩
    have SX : Hid (∀ v : World, Below W3.heap.size W3 v → v.cell? ⟨g, 0, none⟩ = some (.slice (some ⟨blk', off', none⟩) k c) ∧ PlnAt v blk' (off' + 0 * 5) x) := fun v hb => ⟨cell_next G3.out hb, PX.out.next hb⟩
    have S30 := Lib.hid (SS.out W3 (Below.refl _ _))
    have S31 := Lib.hid (SS.out W3.drew (below_drewN (Below.refl _ _) 1))
    unfold Pln.val at HA CD
    have zg := World.block_lt_of_cell? W3 _ G3.out
    have zy := PY.out.lt
    go_region_held3 (fun v => (v.cell? ⟨g, 0, none⟩ = some (.slice (some ⟨blk', off', none⟩) k c) ∧ v.cell? ⟨b7, 0, none⟩ = some (.string s) ∧ v.cell? ⟨blk', off' + m * 5, none⟩ = some (.int .i64 y.v) ∧ v.cell? ⟨blk', off' + m * 5 + 1, none⟩ = some (.int .i64 y.f) ∧ v.cell? ⟨blk', off' + m * 5 + 2, none⟩ = some (.int .i64 y.u) ∧ v.cell? ⟨blk', off' + m * 5 + 3, none⟩ = some (.slice y.cp y.cs.length y.cc) ∧ v.cell? ⟨blk', off' + m * 5 + 4, none⟩ = some (.slice y.mp y.ms.length y.mc))) (first | with_reducible exact S31.out | with_reducible exact S30.out | with_reducible assumption | exact S31.out | assumption)
      (first
        | (go_at_call 15; (with_reducible refine (HA.out _ ?_).mono ?_); (exact below_drewN (Below.refl _ _) 1); rintro e w5 ⟨rfl, hb⟩
           have N5 : Hid (Below W3.heap.size W3 w5) := (below_drewN (Below.refl _ _) 1).trans hb
           have hs5 := SS.out w5 N5.out))
    have B5 : Hid (Below w.heap.size w w5) := B3.out.trans (N5.out.mono B3.out.size)
    cases Q with
    | false =>
      have A0 := Lib.hid (MK.out (.slice none 0 0) 7 w5 (.inl ⟨by simp, rfl, rfl⟩))
      clear MK CD HA
      go_wp2_with fail
      exact bodyPost_ret (by simp [results, Tryd.results7, go_sem]) rfl ⟨_, _, rfl, A0.out, B5.out⟩
    | true =>
      have q := SX.out w5 N5.out
      rw [Nat.zero_mul, Nat.add_zero] at q
      obtain ⟨_, q0, q1, q2, q3, q4⟩ := q
      have zq := World.block_lt_of_cell? w5 _ q0
      have C5 := Lib.hid (CD.out w5 N5.out)
      clear CD HA SS SX S30 S31
      go_wp2_with fail
      refine C5.out.mono ?_
      rintro e w6 ⟨v, rfl, hrow, hb⟩
      have A0 := Lib.hid (MK.out v 0 w6 (.inr ⟨by simp, rfl, Go.Joins.ownsRow_le hrow B5.out.size⟩))
      have B6 : Hid (Below w.heap.size w w6) := B5.out.trans (hb.mono B5.out.size)
      clear hrow hb MK
      go_wp2_with fail
      exact bodyPost_ret (by simp [results, Tryd.results7, go_sem]) rfl ⟨_, _, rfl, A0.out, B6.out⟩

end Go.Proofs.YtbjbioiggjhknaaDoor
