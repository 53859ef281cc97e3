/-
  The reference's Trigger. No statement of the seat is proved here.
-/
import Derived.Test.YtjnlbjlejggngaaGreatDoorTa
import Derived.Test.YtjnlbjlejggngaaGreatDoorTk
namespace Go.Proofs.YtjnlbjlejggngaaGreatDoor
open Go Go.RowKit

def tup (A B : Int) (O : Bool) : Value := .tuple #[.agg #[.int .i64 A, .int .i64 B], .bool O]
theorem rst_no {o : Option (Int × Int)} {s : ByteArray} {y : Nt} {A B : Int} {O : Bool} (h : datV o = tup A B O) (hn : ¬ (y.s = s ∧ (O = false ∨ B < y.b ∨ (B = y.b ∧ A < y.a)))) : datV (rst s o y) = tup A B O := by
  unfold rst
  split
  · rename_i g
    have g : y.s = s := of_decide_eq_true g
    cases o with
    | none =>
      simp [datV, tup] at h
      exact absurd ⟨g, .inl h.2⟩ hn
    | some q =>
      obtain ⟨a, b⟩ := q
      simp [datV, tup] at h
      dsimp only
      rw [if_neg (fun k => hn ⟨g, .inr (by rw [← h.1.1, ← h.1.2]; exact k)⟩)]
      simp [datV, tup, h]
  · exact h
theorem rst_yes {o : Option (Int × Int)} {s : ByteArray} {y : Nt} {A B : Int} {O : Bool} (h : datV o = tup A B O) (hn : y.s = s ∧ (O = false ∨ B < y.b ∨ (B = y.b ∧ A < y.a))) : datV (rst s o y) = tup y.a y.b true := by
  unfold rst
  rw [if_pos (show eqs s y = true from decide_eq_true hn.1)]
  cases o with
  | none => rfl
  | some q =>
    obtain ⟨a, b⟩ := q
    simp [datV, tup] at h
    dsimp only
    rw [if_pos (by
      rcases hn.2 with k | k
      · rw [k] at h; exact absurd h.2 (by simp)
      · rw [h.1.1, h.1.2]; exact k)]
    rfl
theorem take_fold {s : ByteArray} {l : List Nt} {k : Nat} {y : Nt} (h : l[k]? = some y) : (l.take (k + 1)).foldl (rst s) none = rst s ((l.take k).foldl (rst s) none) y := by
  obtain ⟨h1, h2⟩ := List.getElem?_eq_some_iff.1 h
  rw [List.take_succ_eq_append_getElem h1, h2, List.foldl_append]
  rfl
theorem nts_of_row2 {w : World} {B T : Nat} {v : Value} {l : List Nt} (h : w.ownsRow B T 4 v l.length (ntC l)) : ∃ p cap, v = .slice p l.length cap ∧ NtsAt w p l ∧ ∀ a, p = some a → B ≤ a.block := by
  obtain ⟨p, c, e, hN⟩ := nts_of_row h
  refine ⟨p, c, e, hN, fun a ha => ?_⟩
  rcases Go.Joins.ownsRow_forms h with ⟨h1, _⟩ | ⟨g, cap, h1⟩
  · rw [e, ha] at h1
    simp at h1
  · have h2 := (h.lt g (by rw [h1]; rfl)).1
    rw [e, ha] at h1
    simp at h1
    rw [h1.1]
    exact h2
theorem NtsAt.far {w : World} {p : Option Addr} {l : List Nt} (h : NtsAt w p l) {g : Nat} (hg : ∀ a, p = some a → a.block ≠ g) (o : Nat) (v : Value) : NtsAt (w.setCell ⟨g, o, none⟩ v) p l := by
  rcases h with h | ⟨blk, off, hp, h⟩
  · exact .inl h
  have hne : blk ≠ g := hg _ hp
  have k : ∀ j, (w.setCell ⟨g, o, none⟩ v).cell? ⟨blk, j, none⟩ = w.cell? ⟨blk, j, none⟩ := fun j => World.cell?_setCell_other _ _ _ _ (fun e => hne (congrArg Addr.block e).symm)
  exact .inr ⟨blk, off, hp, fun i y hi => ⟨(k _).trans (h i y hi).1, (k _).trans (h i y hi).2.1, (k _).trans (h i y hi).2.2.1, (k _).trans (h i y hi).2.2.2⟩⟩
theorem datV_tup (o : Option (Int × Int)) : ∃ A B O, datV o = tup A B O := by
  cases o with
  | none => exact ⟨_, _, _, rfl⟩
  | some q => exact ⟨_, _, _, rfl⟩

set_option maxRecDepth 100000 in
set_option maxHeartbeats 8000000 in
theorem TrigR_any (x : Fil) (s : ByteArray) (d : Int) (w : World) (hP : NtsAt w x.np x.ns) (hn : x.ns.length ≤ 1000000000) :
    Calls Tryz.prog 25 #[x.val, .string s, .int .i64 d] w fun e w' => e = .returned (datV (trgO x s d)) ∧ Below w.heap.size w w' := by
  obtain ⟨W1, hW1⟩ : ∃ W1, W1 = (w.alloc (.cells x.cells 48)).alloc (.cells #[.int .i64 0, .int .i64 0] 52) := ⟨_, rfl⟩
  have B1 : Hid (Below w.heap.size w W1) := by rw [hW1]; exact ((Below.refl _ _).alloc (Nat.le_refl _) _).alloc (by simp) _
  obtain ⟨b, hb⟩ : ∃ b, b = w.heap.size := ⟨_, rfl⟩
  have X1 : Hid (FilAt W1 b 0 x) := by
    rw [hW1, hb]
    exact (fil_new w x 48).next ((Below.refl _ _).alloc (Nat.le_refl _) _)
  have R1 : Hid (HoldsN 2 W1 (b + 1) (fun i => ([.int .i64 0, .int .i64 0] : List Value).getD i undef)) := by
    rw [hW1, hb]
    have := HoldsN.new (w.alloc (.cells x.cells 48)) [.int .i64 0, .int .i64 0] 52 2 rfl
    simp only [World.size_alloc] at this
    exact this
  have SZ : Hid (W1.heap.size = b + 2) := by rw [hW1, hb]; show _ = _; simp only [World.size_alloc]
  have KK := Lib.hid (fun (w2 : World) (h : Below w.heap.size w w2) => KnownR_any x d w2 (hP.next h) hn)
  have HB := Lib.hid hb
  obtain ⟨R, hR⟩ : ∃ R, R = trgO x s d := ⟨_, rfl⟩
  have HR := Lib.hid hR
  rw [← hR]
  obtain ⟨A, B, O, ho⟩ := datV_tup R
  have HO := Lib.hid ho
  rw [ho]
  unfold tup
  unfold Fil.val Fil.cells at KK ⊢
  unfold Fil.cells at hW1
  have HLn := Lib.hid hn
  clear hP hn hR ho
  obtain ⟨n, hl⟩ : ∃ n, x.ns.length = n := ⟨_, rfl⟩
  have FC8 : Hid (∀ w2 : World, FilAt w2 b 0 x → (w2.cell? ⟨b, 0, none⟩ = some (.int .i64 x.id) ∧ w2.cell? ⟨b, 1, none⟩ = some (.int .i64 x.of) ∧ w2.cell? ⟨b, 2, none⟩ = some (.int .i64 x.op) ∧ w2.cell? ⟨b, 3, none⟩ = some (.int .i64 x.cl) ∧ w2.cell? ⟨b, 4, none⟩ = some (.string x.c) ∧ w2.cell? ⟨b, 5, none⟩ = some (.string x.t) ∧ w2.cell? ⟨b, 6, none⟩ = some (.int .i64 x.pt) ∧ w2.cell? ⟨b, 7, none⟩ = some (.slice x.np n x.nc))) := fun w2 h => by
    have h7 := h.c7
    rw [hl] at h7
    exact ⟨h.c0, h.c1, h.c2, h.c3, h.c4, h.c5, h.c6, h7⟩
  rw [hl] at KK hW1 ⊢
  clear hl
  obtain ⟨c0, c1, c2, c3, c4, c5, c6, c7⟩ := FC8.out _ X1.out
  have r0 := R1.out.cell 0 (by omega); have r1 := R1.out.cell 1 (by omega)
  have f0 := R1.out.frozen 0 (by omega); have f1 := R1.out.frozen 1 (by omega)
  by_cases g1 : s = ⟨#[111, 112, 101, 110, 101, 100]⟩
  · have e1 := op_eq g1 [111, 112, 101, 110, 101, 100] (by rw [tl]; rfl)
    have hR : Hid (R = pas x.op d) := by show R = _; rw [HR.out]; unfold trgO; rw [if_pos g1]
    have C1 : Hid (∀ w1 : World, Calls Tryz.prog 58 #[.int .i64 x.op, .int .i64 d] w1 fun e w' => e = .returned (.tuple #[.agg #[.int .i64 A, .int .i64 B], .bool O]) ∧ Below w1.heap.size w1 w') := fun w1 => by
      have := onR_any x.op d w1
      rwa [← hR.out, HO.out] at this
    clear g1 KK
    go_enter Tryz.func25, Tryz.ntmps25
    go_wp2_with fail
    rw [← hW1, ← hb]
    clear hW1 hb
    go_wp2_with fail
    refine (C1.out W1).mono ?_
    rintro e w2 ⟨rfl, hb2⟩
    have B2 : Hid (Below w.heap.size w w2) := B1.out.trans (hb2.mono B1.out.size)
    have R2 := Lib.hid (R1.out.next hb2)
    clear hb2 c0 c1 c2 c3 c4 c5 c6 c7 r0 r1 f0 f1
    have r0 := R2.out.cell 0 (by omega); have r1 := R2.out.cell 1 (by omega)
    have f0 := R2.out.frozen 0 (by omega); have f1 := R2.out.frozen 1 (by omega)
    have R3 := Lib.hid ((R2.out.put 0 (by omega) (.int .i64 A)).put 1 (by omega) (.int .i64 B))
    have q0 := R3.out.cell 0 (by omega); have q1 := R3.out.cell 1 (by omega)
    simp only [if_true, Nat.zero_ne_one, if_false, Nat.reduceEqDiff] at q0 q1
    have hbw : w.heap.size ≤ b + 1 := by rw [HB.out]; omega
    have BF := Lib.hid ((B2.out.setCell (p := ⟨b + 1, 0, none⟩) hbw (.int .i64 A)).setCell (p := ⟨b + 1, 1, none⟩) hbw (.int .i64 B))
    go_wp2_with fail
    exact bodyPost_ret (by simp [results, Tryz.results25, go_sem, q0, q1]) rfl ⟨rfl, by first | exact BF.out | (rw [HB.out]; exact BF.out)⟩
  · have e1 := op_ne g1 [111, 112, 101, 110, 101, 100] (by rw [tl]; rfl)
    by_cases g2 : s = ⟨#[99, 108, 111, 115, 101, 100]⟩
    · have e2 := op_eq g2 [99, 108, 111, 115, 101, 100] (by rw [tl]; rfl)
      have hR : Hid (R = pas x.cl d) := by show R = _; rw [HR.out]; unfold trgO; rw [if_neg g1, if_pos g2]
      have C1 : Hid (∀ w1 : World, Calls Tryz.prog 58 #[.int .i64 x.cl, .int .i64 d] w1 fun e w' => e = .returned (.tuple #[.agg #[.int .i64 A, .int .i64 B], .bool O]) ∧ Below w1.heap.size w1 w') := fun w1 => by
        have := onR_any x.cl d w1
        rwa [← hR.out, HO.out] at this
      clear g1 g2 KK
      go_enter Tryz.func25, Tryz.ntmps25
      go_wp2_with fail
      rw [← hW1, ← hb]
      clear hW1 hb
      go_wp2_with fail
      refine (C1.out W1).mono ?_
      rintro e w2 ⟨rfl, hb2⟩
      have B2 : Hid (Below w.heap.size w w2) := B1.out.trans (hb2.mono B1.out.size)
      have R2 := Lib.hid (R1.out.next hb2)
      clear hb2 c0 c1 c2 c3 c4 c5 c6 c7 r0 r1 f0 f1
      have r0 := R2.out.cell 0 (by omega); have r1 := R2.out.cell 1 (by omega)
      have f0 := R2.out.frozen 0 (by omega); have f1 := R2.out.frozen 1 (by omega)
      have R3 := Lib.hid ((R2.out.put 0 (by omega) (.int .i64 A)).put 1 (by omega) (.int .i64 B))
      have q0 := R3.out.cell 0 (by omega); have q1 := R3.out.cell 1 (by omega)
      simp only [if_true, Nat.zero_ne_one, if_false, Nat.reduceEqDiff] at q0 q1
      have hbw : w.heap.size ≤ b + 1 := by rw [HB.out]; omega
      have BF := Lib.hid ((B2.out.setCell (p := ⟨b + 1, 0, none⟩) hbw (.int .i64 A)).setCell (p := ⟨b + 1, 1, none⟩) hbw (.int .i64 B))
      go_wp2_with fail
      exact bodyPost_ret (by simp [results, Tryz.results25, go_sem, q0, q1]) rfl ⟨rfl, by first | exact BF.out | (rw [HB.out]; exact BF.out)⟩
    · have e2 := op_ne g2 [99, 108, 111, 115, 101, 100] (by rw [tl]; rfl)
      have hR : Hid (R = trig x.ns s d) := by show R = _; rw [HR.out]; unfold trgO; rw [if_neg g1, if_neg g2]
      clear g1 g2
      go_enter Tryz.func25, Tryz.ntmps25
      go_wp2_with fail
      rw [← hW1, ← hb]
      clear hW1 hb
      obtain ⟨W2, hW2⟩ : ∃ W2, W2 = W1.alloc (.cells #[.int .i64 0, .int .i64 0] 52) := ⟨_, rfl⟩
      have B2 : Hid (Below w.heap.size w W2) := by rw [hW2]; exact B1.out.alloc B1.out.size _
      have R2 : Hid (HoldsN 2 W2 (b + 1) (fun i => ([.int .i64 0, .int .i64 0] : List Value).getD i undef)) := by rw [hW2]; exact R1.out.alloc _
      have D2 : Hid (HoldsN 2 W2 (b + 2) (fun i => ([.int .i64 0, .int .i64 0] : List Value).getD i undef)) := by
        rw [hW2, ← SZ.out]
        exact HoldsN.new W1 [.int .i64 0, .int .i64 0] 52 2 rfl
      have K2 := Lib.hid (KK.out W2 B2.out)
      rw [hW2] at K2
      obtain ⟨x0, x1, x2, x3, x4, x5, x6, x7⟩ := FC8.out _ (X1.out.next ((Below.refl _ _).alloc (Nat.le_refl _) (.cells #[.int .i64 0, .int .i64 0] 52)))
      clear KK
      go_wp2_with fail
      refine K2.out.mono ?_
      rw [← hW2]
      clear hW2 K2 x0 x1 x2 x3 x4 x5 x6 x7 c0 c1 c2 c3 c4 c5 c6 c7 r0 r1 f0 f1
      rintro e w3 ⟨v, rfl, hrow, hb3⟩
      obtain ⟨p2, cap2, rfl, hN, hfar⟩ := nts_of_row2 hrow
      have B3 : Hid (Below w.heap.size w w3) := B2.out.trans (hb3.mono B2.out.size)
      have R3 := Lib.hid (R2.out.next hb3)
      have D3 := Lib.hid (D2.out.next hb3)
      have NK := Lib.hid hN
      have FAR : Hid (∀ a, p2 = some a → a.block ≠ b + 2) := fun a ha e => by
        have h1 := hfar a ha
        have h2 := D2.out.1
        omega
      have HF : Hid ((kn x.ns d).foldl (rst s) none = R) := by show _ = _; rw [hR.out]; exact trig_ref _ _ _
      have hnk : (kn x.ns d).length ≤ 1000000000 := Nat.le_trans (List.length_filter_le _ _) HLn.out
      obtain ⟨K, hK⟩ : ∃ K, K = kn x.ns d := ⟨_, rfl⟩
      rw [← hK] at NK HF hnk ⊢
      obtain ⟨m, hm⟩ : ∃ m, K.length = m := ⟨_, rfl⟩
      have HM := Lib.hid hm
      rw [hm] at hnk ⊢
      have zb1 : w.heap.size ≤ b + 1 := by rw [HB.out]; omega
      have zb2 : w.heap.size ≤ b + 2 := by rw [HB.out]; omega
      clear hrow hb3 hN hK hm hfar
      go_wp2_with fail
      go_loopw [9, 11] (fun f i wr => ∃ (k : Nat) (A1 B1 : Int) (F : Bool) (vs : Nat → Value), k ≤ m ∧ f = .bool F ∧ i = .int .i64 k ∧ datV ((K.take k).foldl (rst s) none) = tup A1 B1 F ∧ HoldsN 2 wr (b + 2) vs ∧ vs 0 = .int .i64 A1 ∧ vs 1 = .int .i64 B1 ∧ HoldsN 2 wr (b + 1) (fun i => ([.int .i64 0, .int .i64 0] : List Value).getD i undef) ∧ NtsAt wr p2 K ∧ Below w.heap.size w wr) (fun _ i _ => m - (intOf i).toNat)
      case atStart => exact ⟨0, 0, 0, false, _, Nat.zero_le _, rfl, rfl, rfl, D3.out, rfl, rfl, R3.out, NK.out, B3.out⟩
      case round =>
        obtain ⟨k, A1, B1, F, vs, hk, rfl, rfl, hd, hD, hv0, hv1, hRR, hN, hbw⟩ := hrel
        have HD := Lib.hid hd; have DD := Lib.hid hD; have RR := Lib.hid hRR; have NN := Lib.hid hN; have BB := Lib.hid hbw
        have d0 := hD.cell 0 (by omega); have d1 := hD.cell 1 (by omega)
        have g0 := hD.frozen 0 (by omega); have g1 := hD.frozen 1 (by omega)
        rw [hv0] at d0
        rw [hv1] at d1
        have V0 := Lib.hid hv0; have V1 := Lib.hid hv1
        have zd := hD.1
        clear hd hD hv0 hv1 hRR hN hbw
        by_cases hkn : k < m
        · obtain ⟨y, hy⟩ : ∃ y, K[k]? = some y := ⟨_, List.getElem?_eq_getElem (by rw [HM.out]; exact hkn)⟩
          obtain ⟨blk, off, hnp, hpc⟩ := NN.out.get hy
          have hkd : decide ((k : Int) < (m : Int)) = true := by simp; omega
          have q0 := hpc.1; have q1 := hpc.2.1; have q2 := hpc.2.2.1; have q3 := hpc.2.2.2
          have zb := hpc.lt
          have HF2 := Lib.hid (take_fold (s := s) hy)
          clear hpc hy
          have YES : Hid (∀ h : y.s = s ∧ (F = false ∨ B1 < y.b ∨ (B1 = y.b ∧ A1 < y.a)), ∀ W, W = ((wr.setCell ⟨b + 1 + 1, 0, none⟩ (.int .i64 y.a)).setCell ⟨b + 1 + 1, 1, none⟩ (.int .i64 y.b)).alloc (.cells #[.int .i64 y.a, .int .i64 y.b] 52) →
              datV ((K.take (k + 1)).foldl (rst s) none) = tup y.a y.b true ∧ HoldsN 2 W (b + 2) (fun j => if j = 1 then .int .i64 y.b else if j = 0 then .int .i64 y.a else vs j) ∧ HoldsN 2 W (b + 1) (fun i => ([.int .i64 0, .int .i64 0] : List Value).getD i undef) ∧ NtsAt W (some ⟨blk, off, none⟩) K ∧ Below w.heap.size w W) := fun h W hW => by
            rw [hW]
            have s2 : w.heap.size ≤ ((wr.setCell ⟨b + 2, 0, none⟩ (.int .i64 y.a)).setCell ⟨b + 2, 1, none⟩ (.int .i64 y.b)).heap.size := by have := BB.out.size; simpa using this
            refine ⟨by rw [HF2.out]; exact rst_yes HD.out h, ((DD.out.put 0 (by omega) _).put 1 (by omega) _).alloc _, ((RR.out.other (by omega) 0 _).other (by omega) 1 _).alloc _, by rw [← hnp]; exact ((NN.out.far FAR.out 0 _).far FAR.out 1 _).next ((Below.refl _ _).alloc (Nat.le_refl _) _), ?_⟩
            exact ((BB.out.setCell (p := ⟨b + 2, 0, none⟩) zb2 _).setCell (p := ⟨b + 2, 1, none⟩) zb2 _).alloc s2 _
          have NO : Hid (∀ h : ¬ (y.s = s ∧ (F = false ∨ B1 < y.b ∨ (B1 = y.b ∧ A1 < y.a))), ∀ W, W = wr.alloc (.cells #[.int .i64 y.a, .int .i64 y.b] 52) →
              datV ((K.take (k + 1)).foldl (rst s) none) = tup A1 B1 F ∧ HoldsN 2 W (b + 2) vs ∧ HoldsN 2 W (b + 1) (fun i => ([.int .i64 0, .int .i64 0] : List Value).getD i undef) ∧ NtsAt W (some ⟨blk, off, none⟩) K ∧ Below w.heap.size w W) := fun h W hW => by
            rw [hW]
            exact ⟨by rw [HF2.out]; exact rst_no HD.out h, DD.out.alloc _, RR.out.alloc _, by rw [← hnp]; exact NN.out.next ((Below.refl _ _).alloc (Nat.le_refl _) _), BB.out.alloc BB.out.size _⟩
          have hcne : wr.heap.size ≠ b + 2 := by omega
          rw [hnp]
          clear HF2 HD DD RR NN BB
          by_cases h1 : y.s = s
          · have e3 := ba_eq' h1
            cases F with
            | false =>
              have Y := Lib.hid (YES.out ⟨h1, .inl rfl⟩ _ rfl)
              clear h1 YES NO
              go_wp2_with fail
              go_roundw
              case rel => exact ⟨k + 1, y.a, y.b, true, _, hkn, rfl, by go_num, Y.out.1, Y.out.2.1, rfl, rfl, Y.out.2.2.1, Y.out.2.2.2.1, Y.out.2.2.2.2⟩
              case measure => simp [intOf]; omega
            | true =>
              by_cases h2 : B1 < y.b
              · have e4 : decide (B1 < y.b) = true := decide_eq_true h2
                have Y := Lib.hid (YES.out ⟨h1, .inr (.inl h2)⟩ _ rfl)
                clear h1 h2 YES NO
                go_wp2_with fail
                go_roundw
                case rel => exact ⟨k + 1, y.a, y.b, true, _, hkn, rfl, by go_num, Y.out.1, Y.out.2.1, rfl, rfl, Y.out.2.2.1, Y.out.2.2.2.1, Y.out.2.2.2.2⟩
                case measure => simp [intOf]; omega
              · have e4 : decide (B1 < y.b) = false := decide_eq_false h2
                by_cases h3 : y.b = B1
                · have e5 : (y.b == B1) = true := by simp [h3]
                  by_cases h4 : A1 < y.a
                  · have e6 : decide (A1 < y.a) = true := decide_eq_true h4
                    have Y := Lib.hid (YES.out ⟨h1, .inr (.inr ⟨h3.symm, h4⟩)⟩ _ rfl)
                    clear h1 h2 h3 h4 YES NO
                    go_wp2_with fail
                    go_roundw
                    case rel => exact ⟨k + 1, y.a, y.b, true, _, hkn, rfl, by go_num, Y.out.1, Y.out.2.1, rfl, rfl, Y.out.2.2.1, Y.out.2.2.2.1, Y.out.2.2.2.2⟩
                    case measure => simp [intOf]; omega
                  · have e6 : decide (A1 < y.a) = false := decide_eq_false h4
                    have Y := Lib.hid (NO.out (fun h => h.2.elim (fun g => by cases g) (fun g => g.elim h2 (fun g => h4 g.2))) _ rfl)
                    clear h1 h2 h3 h4 YES NO
                    go_wp2_with fail
                    go_roundw
                    case rel => exact ⟨k + 1, A1, B1, _, vs, hkn, rfl, by go_num, Y.out.1, Y.out.2.1, V0.out, V1.out, Y.out.2.2.1, Y.out.2.2.2.1, Y.out.2.2.2.2⟩
                    case measure => simp [intOf]; omega
                · have e5 : (y.b == B1) = false := by simp [h3]
                  have Y := Lib.hid (NO.out (fun h => h.2.elim (fun g => by cases g) (fun g => g.elim h2 (fun g => h3 g.1.symm))) _ rfl)
                  clear h1 h2 h3 YES NO
                  go_wp2_with fail
                  go_roundw
                  case rel => exact ⟨k + 1, A1, B1, _, vs, hkn, rfl, by go_num, Y.out.1, Y.out.2.1, V0.out, V1.out, Y.out.2.2.1, Y.out.2.2.2.1, Y.out.2.2.2.2⟩
                  case measure => simp [intOf]; omega
          · have e3 := ba_ne' h1
            have Y := Lib.hid (NO.out (fun h => h1 h.1) _ rfl)
            clear h1 YES NO
            go_wp2_with fail
            go_roundw
            case rel => exact ⟨k + 1, A1, B1, _, vs, hkn, rfl, by go_num, Y.out.1, Y.out.2.1, V0.out, V1.out, Y.out.2.2.1, Y.out.2.2.2.1, Y.out.2.2.2.2⟩
            case measure => simp [intOf]; omega
        · have hkd : decide ((k : Int) < (m : Int)) = false := by simp; omega
          have hAB : A1 = A ∧ B1 = B ∧ F = O := by
            have e := HD.out
            rw [show k = m by omega, ← HM.out, List.take_length, HF.out, HO.out] at e
            simp [tup] at e
            exact ⟨e.1.1.symm, e.1.2.symm, e.2.symm⟩
          obtain ⟨rfl, rfl, rfl⟩ := hAB
          have r0 := RR.out.cell 0 (by omega); have r1 := RR.out.cell 1 (by omega)
          have f0 := RR.out.frozen 0 (by omega); have f1 := RR.out.frozen 1 (by omega)
          have R4 := Lib.hid ((RR.out.put 0 (by omega) (.int .i64 A1)).put 1 (by omega) (.int .i64 B1))
          have q0 := R4.out.cell 0 (by omega); have q1 := R4.out.cell 1 (by omega)
          simp only [if_true, Nat.zero_ne_one, if_false, Nat.reduceEqDiff] at q0 q1
          have BF := Lib.hid ((BB.out.setCell (p := ⟨b + 1, 0, none⟩) zb1 (.int .i64 A1)).setCell (p := ⟨b + 1, 1, none⟩) zb1 (.int .i64 B1))
          go_wp2_with fail
          exact bodyPost_ret (by simp [results, Tryz.results25, go_sem, q0, q1]) rfl ⟨rfl, by first | exact BF.out | (rw [HB.out]; exact BF.out)⟩

end Go.Proofs.YtjnlbjlejggngaaGreatDoor
