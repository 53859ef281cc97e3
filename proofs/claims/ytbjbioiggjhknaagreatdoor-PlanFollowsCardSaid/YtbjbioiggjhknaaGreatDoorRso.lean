/-
  The reference's Sources. No statement of the seat is proved here.
-/
import Derived.Test.YtbjbioiggjhknaaGreatDoorRwk
import Derived.Test.YtbjbioiggjhknaaGreatDoorSo
import Derived.Test.YtbjbioiggjhknaaGreatDoorNc
namespace Go.Proofs.YtbjbioiggjhknaaGreatDoor
open Go Go.RowKit


theorem src_two {l : List Pln} {E a b : Int} {s : ByteArray} {B1 B2 : Nat} {v1 v2 : Value} {r1 r2 : Int} {w1 w2 : World} (h1 : SrcAns l E a b s B1 v1 r1 w1) (h2 : SrcAns l E a b s B2 v2 r2 w2) (hN : ∀ y ∈ l, y.cs.length ≤ 1000000000) :
    r1 = r2 ∧ ∃ L p1 c1 p2 c2, v1 = .slice p1 L.length c1 ∧ v2 = .slice p2 L.length c2 ∧ StrsAt w1 p1 L ∧ StrsAt w2 p2 L ∧ L.length ≤ 1000000000 := by
  have E0 : ∀ w : World, StrsAt w none [] := fun w => .inl rfl
  rcases h1 with ⟨a1, rfl, rfl⟩ | ⟨a1, a2, rfl, rfl⟩ | ⟨a1, a', b', x, y, rfl, rfl, g1, g2, g3, g4, g5, g6⟩
  · rcases h2 with ⟨k1, rfl, rfl⟩ | ⟨k1, k2, rfl, rfl⟩ | ⟨k1, _⟩
    · exact ⟨rfl, [], none, 0, none, 0, rfl, rfl, E0 _, E0 _, Nat.zero_le _⟩
    · exact absurd k1 a1
    · exact absurd k1 a1
  · rcases h2 with ⟨k1, rfl, rfl⟩ | ⟨k1, k2, rfl, rfl⟩ | ⟨k1, a'', b'', x', y', e1, e2, j1, j2, j3, _⟩
    · exact absurd a1 k1
    · exact ⟨rfl, [], none, 0, none, 0, rfl, rfl, E0 _, E0 _, Nat.zero_le _⟩
    · omega
  · rcases h2 with ⟨k1, rfl, rfl⟩ | ⟨k1, k2, rfl, rfl⟩ | ⟨k1, a'', b'', x', y', e1, e2, j1, j2, j3, j4, j5, j6⟩
    · exact absurd a1 k1
    · omega
    · obtain rfl : a' = a'' := by omega
      obtain rfl : b' = b'' := by omega
      obtain rfl : x = x' := Option.some.inj (g4.symm.trans j4)
      obtain rfl : y = y' := Option.some.inj (g5.symm.trans j5)
      rcases g6 with ⟨f1, rfl, rfl⟩ | ⟨f1, rfl, f2⟩
      · rcases j6 with ⟨_, rfl, rfl⟩ | ⟨f3, _⟩
        · exact ⟨rfl, [], none, 0, none, 0, rfl, rfl, E0 _, E0 _, Nat.zero_le _⟩
        · rw [f1] at f3; cases f3
      · rcases j6 with ⟨f3, _⟩ | ⟨_, rfl, f4⟩
        · rw [f1] at f3; cases f3
        · obtain ⟨p1, c1, q1, q2⟩ := strs_of_row f2
          obtain ⟨p2, c2, q3, q4⟩ := strs_of_row f4
          refine ⟨rfl, _, p1, c1, p2, c2, q1, q3, q2, q4, ?_⟩
          have h1 := List.length_filter_le (fun z => decide (walkF (subl l a' b') z.c = s)) x.cs
          have h2 := hN x (List.mem_of_getElem? g4)
          omega

set_option maxRecDepth 100000 in
set_option maxHeartbeats 8000000 in
theorem SourcesR_any (p : Option Addr) (n cap : Nat) (l : List Pln) (a b : Int) (s : ByteArray) (w : World) (hE : Env w) (hL : PlnsAt w p l) (hl : l.length = n) (hS : ∀ y ∈ l, Sml y) (I E : Int) (h : ChkIs l I E) (_hs : s.size ≤ 1000000000000) :
    Calls Tryz.prog 15 #[.slice p n cap, .int .i64 a, .int .i64 b, .string s] w fun e w' => ∃ v r, e = .returned (.tuple #[v, .int .i64 r]) ∧ SrcAns l E a b s w.heap.size v r w' ∧ Below w.heap.size w w' := by
  have hlen : E = 0 → l.length ≤ 16 := fun hz => by
    rcases h with ⟨_, _, h3⟩ | ⟨h1, _⟩ | ⟨i, h1, _⟩
    · omega
    · exact h1
    · exact h1
  have C1 := Lib.hid (VersR_any p n cap l a b w hE hL hl hS I E h)
  have L0 := Lib.hid hL; have E0 := Lib.hid hE; have HS := Lib.hid hS; have HL := Lib.hid hl
  by_cases h1 : E = 0
  case neg =>
    have e1 : verE l E a b = 1 := by unfold verE; rw [if_pos h1]
    have A0 : Hid (∀ w', SrcAns l E a b s w.heap.size (.slice none 0 0) 1 w') := fun w' => .inl ⟨h1, rfl, rfl⟩
    rw [e1] at C1
    clear hE hL hl hS h hlen h1 e1
    go_enter Tryz.func15, Tryz.ntmps15
    go_wp2_with fail
    refine C1.out.mono ?_
    rintro e w2 ⟨rfl, hb⟩
    go_wp2_with fail
    exact bodyPost_ret (by simp [results, Tryz.results15, go_sem]) rfl ⟨_, _, rfl, A0.out _, hb⟩
  by_cases h2 : a < 1 ∨ b < a ∨ (l.length : Int) < b
  · have e1 : verE l E a b = 7 := by unfold verE; rw [if_neg (fun k => k h1), if_pos h2]
    have A0 : Hid (∀ w', SrcAns l E a b s w.heap.size (.slice none 0 0) 7 w') := fun w' => .inr (.inl ⟨h1, h2, rfl, rfl⟩)
    rw [e1] at C1
    clear hE hL hl hS h hlen h1 h2 e1
    go_enter Tryz.func15, Tryz.ntmps15
    go_wp2_with fail
    refine C1.out.mono ?_
    rintro e w2 ⟨rfl, hb⟩
    go_wp2_with fail
    exact bodyPost_ret (by simp [results, Tryz.results15, go_sem]) rfl ⟨_, _, rfl, A0.out _, hb⟩
  have e1 : verE l E a b = 0 := by unfold verE; rw [if_neg (fun k => k h1), if_neg h2]
  rw [e1] at C1
  obtain ⟨a', rfl⟩ : ∃ a' : Nat, a = a' := ⟨a.toNat, by omega⟩
  obtain ⟨b', rfl⟩ : ∃ b' : Nat, b = b' := ⟨b.toNat, by omega⟩
  have l16 := hlen h1
  have g1 : 1 ≤ a' := by omega
  have g2 : a' ≤ b' := by omega
  have g3 : b' ≤ l.length := by omega
  obtain ⟨x, hx⟩ : ∃ x, l[a' - 1]? = some x := ⟨_, List.getElem?_eq_getElem (by omega)⟩
  obtain ⟨y, hy⟩ : ∃ y, l[b' - 1]? = some y := ⟨_, List.getElem?_eq_getElem (by omega)⟩
  obtain ⟨blk, off, rfl, hpy, hky⟩ := hL.get hy
  obtain ⟨blk2, off2, he, hpx, hkx⟩ := hL.get hx
  obtain ⟨rfl, rfl⟩ : blk = blk2 ∧ off = off2 := by simpa using he
  have mk : ∀ v r w', ((has y.cs s = false ∧ v = .slice none 0 0 ∧ r = 7) ∨ (has y.cs s = true ∧ r = 0 ∧ w'.ownsRow w.heap.size 9 1 v (x.cs.filter fun z => decide (walkF (subl l a' b') z.c = s)).length (strC (x.cs.filter fun z => decide (walkF (subl l a' b') z.c = s))))) → SrcAns l E (a' : Int) (b' : Int) s w.heap.size v r w' := fun v r w' hv => .inr (.inr ⟨h1, a', b', x, y, rfl, rfl, g1, g2, g3, hx, hy, hv⟩)
  have MK := Lib.hid mk
  have PX := Lib.hid hpx; have PY := Lib.hid hpy; have KX := Lib.hid hkx; have KY := Lib.hid hky
  have SX := hS x (List.mem_of_getElem? hx); have SY := hS y (List.mem_of_getElem? hy)
  have C2 := Lib.hid (fun w1 (h1 : Below w.heap.size w w1) => HasR_any y s w1 (KY.out.next h1) SY.1)
  have ZX := Lib.hid SX.2.2.1
  have C3 := Lib.hid (fun z (hz : z ∈ x.cs) w1 (h1 : Below w.heap.size w w1) => WalkR_any (some ⟨blk, off, none⟩) n cap (a' - 1) (b' - 1) l z.c w1 (E0.out.below h1) (L0.out.next h1) HL.out (by omega) (by omega) (by omega) HS.out (ZX.out z hz).1)
  have nx := SX.1
  rw [take_subl g1 g2] at C3
  obtain ⟨LL, hLL⟩ : ∃ LL, LL = subl l a' b' := ⟨_, rfl⟩
  rw [← hLL] at C3 MK
  obtain ⟨H, hH⟩ : ∃ H, H = has y.cs s := ⟨_, rfl⟩
  rw [← hH] at C2 MK
  have i1 : (0 : Int) ≤ (a' : Int) - 1 := by omega
  have i2 : (a' : Int) - 1 < (n : Int) := by omega
  have i3 : ((a' : Int) - 1).toNat = a' - 1 := by omega
  have i4 : IntKind.i64.wrap ((a' : Int) - 1) = (a' : Int) - 1 := IntWalk.i64_in _ (by omega)
  have i6 : ((a' - 1 : Nat) : Int) = (a' : Int) - 1 := by omega
  have i8 : (1 : Int) ≤ (a' : Int) := by omega
  have i9 : (a' : Int) ≤ (n : Int) := by omega
  have j1 : (0 : Int) ≤ (b' : Int) - 1 := by omega
  have j2 : (b' : Int) - 1 < (n : Int) := by omega
  have j3 : ((b' : Int) - 1).toNat = b' - 1 := by omega
  have j4 : IntKind.i64.wrap ((b' : Int) - 1) = (b' : Int) - 1 := IntWalk.i64_in _ (by omega)
  have j6 : ((b' - 1 : Nat) : Int) = (b' : Int) - 1 := by omega
  have j8 : (1 : Int) ≤ (b' : Int) := by omega
  have j9 : (b' : Int) ≤ (n : Int) := by omega
  rw [i6, j6] at C3
  obtain ⟨N, hNl⟩ : ∃ N, x.cs.length = N := ⟨_, rfl⟩
  have HN := Lib.hid hNl
  rw [hNl] at nx
  unfold Pln.val at C2
  obtain ⟨i0, hi, hz0, hz1, hz2⟩ := info_parts info9
  clear hE hL hl hS h hlen h1 h2 e1 g1 g2 g3 hx hy hpx hpy hkx hky SX SY hH hLL l16 mk he hNl
  go_enter Tryz.func15, Tryz.ntmps15
  go_wp2_with fail
  refine C1.out.mono ?_
  rintro e w2 ⟨rfl, hb⟩
  have B2 := Lib.hid hb
  have P2 := PY.out.next hb
  have x0 := P2.1; have x1 := P2.2.1; have x2 := P2.2.2.1; have x3 := P2.2.2.2.1; have x4 := P2.2.2.2.2
  have zb := P2.lt
  clear hb P2
  go_wp2_with fail
  refine (C2.out _ B2.out).mono ?_
  rintro e w3 ⟨rfl, hb⟩
  have B3 := Lib.hid (B2.out.trans (hb.mono B2.out.size))
  clear hb x0 x1 x2 x3 x4 C2 zb
  cases H with
  | false =>
    have A0 := Lib.hid (MK.out (.slice none 0 0) 7 w3 (.inl ⟨rfl, rfl, rfl⟩))
    clear MK
    go_wp2_with fail
    exact bodyPost_ret (by simp [results, Tryz.results15, go_sem]) rfl ⟨_, _, rfl, A0.out, B3.out⟩
  | true =>
    obtain ⟨PP, hPP⟩ : ∃ P : Pr → Bool, P = fun z => decide (walkF LL z.c = s) := ⟨_, rfl⟩
    rw [← hPP] at MK
    have HPP := Lib.hid hPP
    have LT := Lib.hid (World.ownsRow_lit (base := w3.heap.size) (e := 9) (size := 1) w3 #[] 0 (Nat.le_refl _) (Nat.zero_le _) rfl)
    have zW : w.heap.size ≤ w3.heap.size := B3.out.size
    clear hPP
    go_wp2_with fail
    go_loopw [11, 12] (fun v i wr => ∃ k : Nat, k ≤ N ∧ i = .int .i64 k ∧ wr.ownsRow w3.heap.size 9 1 v ((x.cs.take k).filter PP).length (strC ((x.cs.take k).filter PP)) ∧ Below w3.heap.size w3 wr) (fun _ i _ => N - (intOf i).toNat)
    case atStart => exact ⟨0, Nat.zero_le _, rfl, LT.out, (Below.refl _ _).alloc (Nat.le_refl _) _⟩
    case round =>
      obtain ⟨k, hk, rfl, hrow, hb⟩ := hrel
      have NB := Lib.hid hb
      have RW := Lib.hid hrow
      have BW := Lib.hid (B3.out.trans (hb.mono zW))
      have c3 := (PX.out.next BW.out).2.2.2.1
      have zx := (PX.out.next BW.out).lt
      rw [HN.out] at c3
      by_cases hkn : k < N
      · obtain ⟨z, hz⟩ : ∃ y, x.cs[k]? = some y := ⟨_, List.getElem?_eq_getElem (by rw [HN.out]; exact hkn)⟩
        obtain ⟨blk2, off2, hnp, hpc⟩ := (KX.out.next BW.out).1.get hz
        have PW := Lib.hid hpc
        have HT : Hid (x.cs.take (k + 1) = x.cs.take k ++ [z]) := by
          obtain ⟨h1, h2⟩ := List.getElem?_eq_some_iff.1 hz
          show _ = _
          rw [List.take_succ_eq_append_getElem h1, h2]
        have HLen : ((x.cs.take k).filter PP).length ≤ k := by
          have := List.length_filter_le PP (x.cs.take k)
          rw [List.length_take] at this
          omega
        have D1 := Lib.hid (C3.out z (List.mem_of_getElem? hz) wr BW.out)
        obtain ⟨q, hq⟩ : ∃ q, q = walkF LL z.c := ⟨_, rfl⟩
        rw [← hq] at D1
        have HCH : Hid (PP z = decide (q = s)) := by show _ = _; rw [HPP.out, hq]
        have hkd : decide ((k : Int) < (N : Int)) = true := by simp; omega
        have q0 := PW.out.1; have q1 := PW.out.2
        have zb := PW.out.lt
        rw [hnp] at c3
        clear hb hrow hpc hz hnp hq
        go_wp2_with fail
        refine D1.out.mono ?_
        rintro e w4 ⟨rfl, hb⟩
        have B4 := Lib.hid (NB.out.trans (hb.mono NB.out.size))
        have R4 := Lib.hid (RW.out.kept (row := none) ⟨hb.os, hb.tape, hb.output, hb.size, fun k hk _ => hb.block k hk⟩ (by cases u11.ownBlock <;> simp))
        clear hb c3 q0 q1
        have NO : Hid (PP z = false → (x.cs.take (k + 1)).filter PP = (x.cs.take k).filter PP) := fun e => by
          rw [HT.out, List.filter_append, List.filter_cons_of_neg (by rw [e]; simp)]
          simp
        have YES : Hid (PP z = true → (x.cs.take (k + 1)).filter PP = (x.cs.take k).filter PP ++ [z]) := fun e => by
          rw [HT.out, List.filter_append, List.filter_cons_of_pos e]
          simp
        by_cases g : q = s
        · have f := ba_eq' g
          have HF := Lib.hid (YES.out (by rw [HCH.out, decide_eq_true g]))
          have zB := B4.out.size
          clear g
          go_wp2_with (at_builtin; refine wpList_append_own _ rfl _ _ 32 rfl w3.heap.size 9 i0 _ 1 16 Tryz.underlying32 hi hz0 hz1 hz2 rfl (by decide) _ _ _ rfl (R4.out.alloc _) ⟨w4.heap.size, 0, none⟩ 1 1 [.string z.c] rfl rfl (str_news w4 z.c 9) (str_one z.c) (by unfold maxLen; omega) (by omega) (by simp; omega) ?_; intro v' w5 hown' hgrow _)
          have B5 : Hid (Below w3.heap.size w3 w5) := (B4.out.alloc zB _).grown hgrow (by simp; omega) (fun k e => (R4.out.lt k e).1)
          have R5 : Hid (w5.ownsRow w3.heap.size 9 1 v' ((x.cs.take (k + 1)).filter PP).length (strC ((x.cs.take (k + 1)).filter PP))) := by
            show w5.ownsRow _ _ _ _ _ _
            rw [HF.out, strC_snoc, List.length_append]
            exact hown'
          clear hown' hgrow
          go_wp2_with fail
          go_roundw
          case rel => exact ⟨k + 1, hkn, by go_num, R5.out, B5.out⟩
          case measure => simp [intOf]; omega
        · have f := ba_ne' g
          have HF := Lib.hid (NO.out (by rw [HCH.out, decide_eq_false g]))
          clear g
          go_wp2_with fail
          go_roundw
          case rel => exact ⟨k + 1, hkn, by go_num, by rw [HF.out]; exact R4.out, B4.out⟩
          case measure => simp [intOf]; omega
      · have hkd : decide ((k : Int) < (N : Int)) = false := by simp; omega
        have hkn2 : k = N := by omega
        have R3 : Hid (wr.ownsRow w.heap.size 9 1 u11 (x.cs.filter PP).length (strC (x.cs.filter PP))) := by
          have := RW.out
          rw [hkn2, ← HN.out, List.take_length] at this
          exact Go.Joins.ownsRow_le this zW
        have A0 := Lib.hid (MK.out u11 0 wr (.inr ⟨by simp, rfl, R3.out⟩))
        clear hb hrow hkn2 MK
        go_wp2_with fail
        exact bodyPost_ret (by simp [results, Tryz.results15, go_sem]) rfl ⟨_, _, rfl, A0.out, BW.out⟩

end Go.Proofs.YtbjbioiggjhknaaGreatDoor
