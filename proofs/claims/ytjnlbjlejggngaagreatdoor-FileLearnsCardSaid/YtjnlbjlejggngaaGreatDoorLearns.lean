/-
  PROVED HERE: the law archivumlaw08.FileLearns answers true for every file, name, day and number of days more: on a later day at least as much is known, the end of a trigger is not earlier, and the state does not go back. Condition: the listed variables hold what the program's text lays in them. Every input is spoken of.
-/
import Derived.Test.YtjnlbjlejggngaaGreatDoorIx
import Derived.Deep.CutRange
namespace Go.Proofs.YtjnlbjlejggngaaGreatDoor
open Go Go.RowKit Go.ChangeShapes Go.WideShapes Go.ChangeAt Go.Joins

theorem fil_cells (w : World) (x : Fil) (b : Nat) (h : FilAt w b 0 x) : w.cell? ⟨b, 0, none⟩ = some (.int .i64 x.id) ∧ w.cell? ⟨b, 1, none⟩ = some (.int .i64 x.of) ∧ w.cell? ⟨b, 2, none⟩ = some (.int .i64 x.op) ∧ w.cell? ⟨b, 3, none⟩ = some (.int .i64 x.cl) ∧ w.cell? ⟨b, 4, none⟩ = some (.string x.c) ∧ w.cell? ⟨b, 5, none⟩ = some (.string x.t) ∧ w.cell? ⟨b, 6, none⟩ = some (.int .i64 x.pt) ∧ w.cell? ⟨b, 7, none⟩ = some (.slice x.np x.ns.length x.nc) :=
  ⟨h.c0, h.c1, h.c2, h.c3, h.c4, h.c5, h.c6, h.c7⟩

theorem FilAt.drew {w : World} {b o : Nat} {x : Fil} (h : FilAt w b o x) : FilAt w.drew b o x := ⟨h.c0, h.c1, h.c2, h.c3, h.c4, h.c5, h.c6, h.c7⟩
theorem HoldsN.drew1 {n : Nat} {w : World} {b : Nat} {vs : Nat → Value} (h : HoldsN n w b vs) : HoldsN n w.drew b vs := h
theorem FilAt.lt {w : World} {b o : Nat} {x : Fil} (h : FilAt w b o x) : b < w.heap.size := World.block_lt_of_cell? w _ h.c0
theorem FilAt.set {w : World} {b o g : Nat} {x : Fil} (h : FilAt w b o x) (hg : g ≠ b) (v : Value) : FilAt (w.setCell ⟨g, 0, none⟩ v) b o x := by
  have k : ∀ j, (w.setCell ⟨g, 0, none⟩ v).cell? ⟨b, j, none⟩ = w.cell? ⟨b, j, none⟩ := fun j => World.cell?_setCell_other _ _ _ _ (fun e => hg (congrArg Addr.block e))
  exact ⟨(k _).trans h.c0, (k _).trans h.c1, (k _).trans h.c2, (k _).trans h.c3, (k _).trans h.c4, (k _).trans h.c5, (k _).trans h.c6, (k _).trans h.c7⟩
theorem NtsAt.set {w : World} {p : Option Addr} {l : List Nt} {g n c : Nat} {q : Option Addr} (h : NtsAt w p l) (hg : w.cell? ⟨g, 0, none⟩ = some (.slice q n c)) (v : Value) : NtsAt (w.setCell ⟨g, 0, none⟩ v) p l := by
  rcases h with h | ⟨blk, off, hp, h⟩
  · exact .inl h
  refine .inr ⟨blk, off, hp, fun i y hi => ?_⟩
  have N := h i y hi
  have k : ∀ o u, w.cell? ⟨blk, o, none⟩ = some u → (∀ q n c, u ≠ .slice q n c) → (w.setCell ⟨g, 0, none⟩ v).cell? ⟨blk, o, none⟩ = some u := fun o u hu hn => by
    rw [World.cell?_setCell_other]
    · exact hu
    · intro e
      rw [← e, hg] at hu
      exact hn _ _ _ (Option.some.inj hu).symm
  exact ⟨k _ _ N.1 (by intros; simp), k _ _ N.2.1 (by intros; simp), k _ _ N.2.2.1 (by intros; simp), k _ _ N.2.2.2 (by intros; simp)⟩
theorem kn_mono {l : List Nt} {d d' : Int} (h : d ≤ d') : (∀ x ∈ kn l d, x ∈ kn l d') ∧ (kn l d).length ≤ (kn l d').length ∧ (kn l d').length ≤ l.length := by
  have e : kn l d = (kn l d').filter fun x => decide (x.r ≤ d) := by
    unfold kn
    rw [List.filter_filter]
    congr 1
    funext x
    rw [Bool.eq_iff_iff]
    simp
    omega
  refine ⟨fun x hx => ?_, ?_, List.length_filter_le _ _⟩
  · rw [e] at hx
    exact (List.mem_filter.1 hx).1
  · rw [e]
    exact List.length_filter_le _ _
theorem trg_mono {x : Fil} {s : ByteArray} {d d' : Int} (h : d ≤ d') : ∃ A B O A' B' O', datV (trgO x s d) = .tuple #[.agg #[.int .i64 A, .int .i64 B], .bool O] ∧ datV (trgO x s d') = .tuple #[.agg #[.int .i64 A', .int .i64 B'], .bool O'] ∧ (O = true → O' = true ∧ B ≤ B') := by
  have key : ∀ o o' : Option (Int × Int), (∀ p, o = some p → ∃ p', o' = some p' ∧ p.2 ≤ p'.2) → ∃ A B O A' B' O', datV o = .tuple #[.agg #[.int .i64 A, .int .i64 B], .bool O] ∧ datV o' = .tuple #[.agg #[.int .i64 A', .int .i64 B'], .bool O'] ∧ (O = true → O' = true ∧ B ≤ B') := by
    intro o o' hk
    cases o with
    | none =>
      cases o' with
      | none => exact ⟨0, 0, false, 0, 0, false, rfl, rfl, fun h => by cases h⟩
      | some p' => exact ⟨0, 0, false, p'.1, p'.2, true, rfl, rfl, fun h => by cases h⟩
    | some p =>
      obtain ⟨p', rfl, h2⟩ := hk p rfl
      exact ⟨p.1, p.2, true, p'.1, p'.2, true, rfl, rfl, fun _ => ⟨rfl, h2⟩⟩
  apply key
  intro p hp
  have pasm : ∀ y, pas y d = some p → ∃ p', pas y d' = some p' ∧ p.2 ≤ p'.2 := by
    intro y hy
    unfold pas at hy ⊢
    split at hy
    · obtain rfl := Option.some.inj hy
      exact ⟨(y, y), if_pos (by omega), Int.le_refl _⟩
    · cases hy
  unfold trgO at hp ⊢
  split at hp
  · rename_i g; rw [if_pos g]; exact pasm _ hp
  · rename_i g
    rw [if_neg g]
    split at hp
    · rename_i g2; rw [if_pos g2]; exact pasm _ hp
    · rename_i g2
      rw [if_neg g2]
      rcases trig_is x.ns s d with ⟨h1, _⟩ | ⟨a, c, h1, ⟨y, h2, h3, h4, h5, h6⟩, h7⟩
      · rw [h1] at hp; cases hp
      · rw [h1] at hp
        obtain rfl := Option.some.inj hp
        rcases trig_is x.ns s d' with ⟨k1, k2⟩ | ⟨a', c', k1, _, k7⟩
        · exact absurd (show y.r ≤ d' by omega) (k2 y h2 h3)
        · exact ⟨(a', c'), k1, by have := k7 y h2 h3 (by omega); show c ≤ c'; omega⟩
theorem sta_mono {x : Fil} {d d' : Int} (h : d ≤ d') : staI x d ≤ staI x d' := by
  unfold staI
  split <;> split <;> (try split) <;> (try split) <;> omega

set_option maxRecDepth 100000 in
set_option maxHeartbeats 8000000 in
theorem learns_law (x : Fil) (s : ByteArray) (d m : Int) (w : World) (hE : Env w) (hN : NtsAt w x.np x.ns) (hm0 : 0 ≤ m) (hm1 : m ≤ 65535) :
    Calls Tryz.prog 6 #[x.val, .string s, .int .i64 d, .int .u16 m] w fun e w' => e = .returned (.bool true) ∧ Below w.heap.size w w' := by
  obtain ⟨W1, hW1⟩ : ∃ W1, W1 = w.alloc (.cells x.cells 48) := ⟨_, rfl⟩
  have B1 : Hid (Below w.heap.size w W1) := by rw [hW1]; exact (Below.refl _ _).alloc (Nat.le_refl _) _
  obtain ⟨b, hb⟩ : ∃ b, b = w.heap.size := ⟨_, rfl⟩
  have X1 : Hid (FilAt W1 b 0 x) := by rw [hW1, hb]; exact fil_new w x 48
  have N0 := Lib.hid hN
  have E0 := Lib.hid hE
  have HB := Lib.hid hb
  have FA := Lib.hid (fun (w2 : World) (h : Below w.heap.size w w2) => Few_any x w2.heap.size (w2.alloc (.cells x.cells 48)) (fil_new w2 x 48) ((N0.out.next h).next ((Below.refl _ _).alloc (Nat.le_refl _) _)))
  have hle : d ≤ d + m := by omega
  obtain ⟨d', hd'⟩ : ∃ d', d' = d + m := ⟨_, rfl⟩
  have HD := Lib.hid hd'
  rw [← hd'] at hle
  obtain ⟨A, B, O, A', B', O', ho, ho', hOO⟩ := trg_mono (x := x) (s := s) hle
  have TA := Lib.hid (fun (w2 : World) (h : Below w.heap.size w w2) (hn : x.ns.length ≤ 1000000000) => Trigger_any x s d w2 (N0.out.next h) hn)
  have TB := Lib.hid (fun (w2 : World) (h : Below w.heap.size w w2) (hn : x.ns.length ≤ 1000000000) => Trigger_any x s d' w2 (N0.out.next h) hn)
  rw [ho] at TA
  rw [ho'] at TB
  have KA := Lib.hid (fun (w2 : World) (h : Below w.heap.size w w2) (hn : x.ns.length ≤ 1000000000) => Known_any x d w2 (N0.out.next h) hn)
  have KB := Lib.hid (fun (w2 : World) (h : Below w.heap.size w w2) (hn : x.ns.length ≤ 1000000000) => Known_any x d' w2 (N0.out.next h) hn)
  have SA := Lib.hid (fun (w2 : World) => State_any x d w2)
  have SB := Lib.hid (fun (w2 : World) => State_any x d' w2)
  have HK := Lib.hid (kn_mono (l := x.ns) hle)
  have HS := Lib.hid (sta_mono (x := x) hle)
  have HO := Lib.hid hOO
  obtain ⟨S1, hS1⟩ : ∃ S, S = staI x d := ⟨_, rfl⟩
  obtain ⟨S2, hS2⟩ : ∃ S, S = staI x d' := ⟨_, rfl⟩
  rw [← hS1] at SA HS
  rw [← hS2] at SB HS
  have HH := Lib.hid hle
  clear hd' hle ho ho' hOO hS1 hS2
  obtain ⟨F, hF⟩ : ∃ F, F = fewF x := ⟨_, rfl⟩
  rw [← hF] at FA
  have HF := Lib.hid hF
  unfold Fil.val Fil.cells at TA TB KA KB SA SB ⊢
  unfold Fil.cells at hW1 FA
  obtain ⟨n, hl⟩ : ∃ n, x.ns.length = n := ⟨_, rfl⟩
  have HL := Lib.hid hl
  have FC := Lib.hid (fun w2 h => fil_cells w2 x b h)
  rw [hl] at FA TA TB KA KB SA SB hW1 ⊢
  clear hE hN hF hl
  go_enter Tryz.func6, Tryz.ntmps6
  go_wp2_with fail
  rw [← hW1, ← hb]
  clear hW1 hb
  go_wp2_with fail
  refine (awakeF_true _ (E0.out.below B1.out)).mono ?_
  rintro e w2 ⟨rfl, hb⟩
  have B2 := Lib.hid (B1.out.trans (hb.mono B1.out.size))
  have X2 := Lib.hid (X1.out.next hb)
  clear hb
  obtain ⟨x0, x1, x2, x3, x4, x5, x6, x7⟩ := FC.out _ X2.out
  rw [HL.out] at x7
  go_wp2_with fail
  refine (FA.out w2 B2.out).mono ?_
  rintro e w3 ⟨rfl, hb⟩
  have B3 : Hid (Below w.heap.size w w3) := B2.out.trans (((Below.refl _ _).alloc (Nat.le_refl _) _).trans (hb.mono (by simp)) |>.mono B2.out.size)
  have X3 : Hid (FilAt w3 b 0 x) := (X2.out.next ((Below.refl _ _).alloc (Nat.le_refl _) _)).next hb
  clear hb x0 x1 x2 x3 x4 x5 x6 x7
  cases F with
  | false =>
    go_wp2_with fail
    go_ret
    exact ⟨rfl, by first | exact B3.out | (rw [HB.out]; exact B3.out)⟩
  | true =>
  by_cases h1 : d > 1048575
  · have e1 : decide (d > 1048575) = true := decide_eq_true h1
    clear h1
    go_wp2_with fail
    go_ret
    exact ⟨rfl, by first | exact B3.out | (rw [HB.out]; exact B3.out)⟩
  have e1 : decide (d > 1048575) = false := decide_eq_false h1
  by_cases h2 : d < -1048575
  · have e2 : decide (d < -1048575) = true := decide_eq_true h2
    clear h1 h2
    go_wp2_with fail
    go_ret
    exact ⟨rfl, by first | exact B3.out | (rw [HB.out]; exact B3.out)⟩
  have e2 : decide (d < -1048575) = false := decide_eq_false h2
  have FW := fewF_iff.1 HF.out.symm
  have hn20 : n ≤ 20 := by have := FW.1; have := HL.out; omega
  have hw1 : IntKind.i64.wrap m = m := IntWalk.i64_in _ (by omega)
  have hw2 : IntKind.i64.wrap (d + m) = d' := by rw [HD.out]; exact IntWalk.i64_in _ (by omega)
  obtain ⟨x0, x1, x2, x3, x4, x5, x6, x7⟩ := FC.out _ X3.out
  rw [HL.out] at x7
  clear h1 h2 FW
  have FC8 : Hid (∀ w2 : World, FilAt w2 b 0 x → (w2.cell? ⟨b, 0, none⟩ = some (.int .i64 x.id) ∧ w2.cell? ⟨b, 1, none⟩ = some (.int .i64 x.of) ∧ w2.cell? ⟨b, 2, none⟩ = some (.int .i64 x.op) ∧ w2.cell? ⟨b, 3, none⟩ = some (.int .i64 x.cl) ∧ w2.cell? ⟨b, 4, none⟩ = some (.string x.c) ∧ w2.cell? ⟨b, 5, none⟩ = some (.string x.t) ∧ w2.cell? ⟨b, 6, none⟩ = some (.int .i64 x.pt) ∧ w2.cell? ⟨b, 7, none⟩ = some (.slice x.np n x.nc))) := fun w2 h => by
    have := FC.out w2 h
    rw [HL.out] at this
    exact this
  have HS3 := Lib.hid (FC8.out w3 X3.out)
  have K1 := Lib.hid (fun w2 h => KA.out w2 h (by omega))
  have K2 := Lib.hid (fun w2 h => KB.out w2 h (by omega))
  have HLn := Lib.hid hn20
  go_wp2_with fail
  go_cut [10, 11] from 10 to 90 (fun v g wx => ∃ (p5 p6 : Option Addr) (c5 c6 gb : Nat), v = .slice p5 (kn x.ns d).length c5 ∧ g = .pointer (some ⟨gb, 0, none⟩) ∧ wx.cell? ⟨gb, 0, none⟩ = some (.slice p6 (kn x.ns d').length c6) ∧ NtsAt wx p5 (kn x.ns d) ∧ NtsAt wx p6 (kn x.ns d') ∧ FilAt wx b 0 x ∧ Below w.heap.size w wx)
  case first =>
    go_region_held3 (fun v => (v.cell? ⟨b, 0, none⟩ = some (.int .i64 x.id) ∧ v.cell? ⟨b, 1, none⟩ = some (.int .i64 x.of) ∧ v.cell? ⟨b, 2, none⟩ = some (.int .i64 x.op) ∧ v.cell? ⟨b, 3, none⟩ = some (.int .i64 x.cl) ∧ v.cell? ⟨b, 4, none⟩ = some (.string x.c) ∧ v.cell? ⟨b, 5, none⟩ = some (.string x.t) ∧ v.cell? ⟨b, 6, none⟩ = some (.int .i64 x.pt) ∧ v.cell? ⟨b, 7, none⟩ = some (.slice x.np n x.nc))) (first | exact HS3.out | assumption | exact FC8.out _ (X6.out.next ((Below.refl _ _).alloc (Nat.le_refl _) _)) | exact FC8.out _ (X5.out.next ((Below.refl _ _).alloc (Nat.le_refl _) _)) | exact FC8.out _ (X3.out.next ((Below.refl _ _).alloc (Nat.le_refl _) _)) | exact FC8.out _ (FilAt.drew (X3.out.next ((Below.refl _ _).alloc (Nat.le_refl _) _))) | exact FC8.out _ (FilAt.set X6.out (Nat.ne_of_gt X5.out.lt) _) | exact FC8.out _ (FilAt.set X6.out (Nat.ne_of_gt X3.out.lt) _) | assumption)
      (first
        | (go_at_call 27; refine (K2.out _ (by first | exact B5.out | exact B5.out.alloc B5.out.size _)).mono ?_; rintro e w6 ⟨v6, rfl, hr6, hb6⟩; obtain ⟨p6, c6, rfl, hN6⟩ := nts_of_row hr6
           have X6 : Hid (FilAt w6 b 0 x) := by first | exact FilAt.next X5.out hb6 | exact FilAt.next (FilAt.next X5.out ((Below.refl _ _).alloc (Nat.le_refl _) _)) hb6
           have B6 : Hid (Below w.heap.size w w6) := by first | exact B5.out.trans (hb6.mono B5.out.size) | exact (B5.out.alloc B5.out.size _).trans (hb6.mono (by have := B5.out.size; simp; omega))
           have M6 : Hid (NtsAt w6 p5 (kn x.ns d)) := by first | exact NtsAt.next hN5 hb6 | exact NtsAt.next (NtsAt.next hN5 ((Below.refl _ _).alloc (Nat.le_refl _) _)) hb6
           have hs6 := FC8.out w6 X6.out
           first
             | (have G6 : Hid (HoldsN 1 w6 w5.heap.size (fun i => ([.slice none 0 0] : List Value).getD i undef)) := HoldsN.next (HoldsN.new w5 [.slice none 0 0] 46 1 rfl) hb6
                have g0 := G6.out.cell 0 (by omega); have g1 := G6.out.frozen 0 (by omega))
             | (have G6 : Hid (HoldsN 1 w6 w3.heap.size (fun i => ([.slice none 0 0] : List Value).getD i undef)) := HoldsN.next G5.out hb6
                have g0 := G6.out.cell 0 (by omega); have g1 := G6.out.frozen 0 (by omega))
             | skip)
        | (go_at_call 27; refine (K1.out _ (by first | exact below_drewN B3.out 1 | exact below_drewN (B3.out.alloc B3.out.size _) 1)).mono ?_; rintro e w5 ⟨v5, rfl, hr5, hb5⟩; obtain ⟨p5, c5, rfl, hN5⟩ := nts_of_row hr5
           have X5 : Hid (FilAt w5 b 0 x) := by first | exact FilAt.next X3.out.drew hb5 | exact FilAt.next (FilAt.drew (FilAt.next X3.out ((Below.refl _ _).alloc (Nat.le_refl _) _))) hb5
           have B5 : Hid (Below w.heap.size w w5) := by first | exact (below_drewN B3.out 1).trans (hb5.mono B3.out.size) | exact (below_drewN (B3.out.alloc B3.out.size _) 1).trans (hb5.mono (by have := B3.out.size; simp; omega))
           have hs5 := FC8.out w5 X5.out
           first
             | (have G5 : Hid (HoldsN 1 w5 w3.heap.size (fun i => ([.slice none 0 0] : List Value).getD i undef)) := HoldsN.next (HoldsN.drew1 (HoldsN.new w3 [.slice none 0 0] 46 1 rfl)) hb5)
             | skip))
    all_goals
      go_wp2_with fail
      go_meet
    · exact ⟨p5, p6, c5, c6, _, rfl, rfl, (by rw [World.cell?_alloc_new]; rfl), M6.out.next ((Below.refl _ _).alloc (Nat.le_refl _) _), hN6.next ((Below.refl _ _).alloc (Nat.le_refl _) _), X6.out.next ((Below.refl _ _).alloc (Nat.le_refl _) _), B6.out.alloc B6.out.size _⟩
    · exact ⟨p5, p6, c5, c6, _, rfl, rfl, World.cell?_setCell_same _ _ _ g0, M6.out.set g0 _, hN6.set g0 _, X6.out.set (Nat.ne_of_gt X5.out.lt) _, B6.out.setCell B5.out.size _⟩
    · exact ⟨p5, p6, c5, c6, _, rfl, rfl, World.cell?_setCell_same _ _ _ g0, M6.out.set g0 _, hN6.set g0 _, X6.out.set (Nat.ne_of_gt X3.out.lt) _, B6.out.setCell B3.out.size _⟩
  case rest =>
    obtain ⟨p5, p6, c5, c6, gb, rfl, rfl, hg, hM5, hM6, hX7, hB7⟩ := hcut
    have G7 := Lib.hid hg; have X7 := Lib.hid hX7; have B7 := Lib.hid hB7
    obtain ⟨hk1, hk2, hk3⟩ := HK.out
    have hk4 : x.ns.length = n := HL.out
    have CM := Lib.hid (CFmiss p5 p6 _ c5 _ c6 (kn x.ns d) (kn x.ns d') gb wc hM5 hM6 rfl rfl (by omega) (by omega) hk1 hg)
    obtain ⟨n5, hn5⟩ : ∃ n5, n5 = (kn x.ns d).length := ⟨_, rfl⟩
    obtain ⟨n6, hn6⟩ : ∃ n6, n6 = (kn x.ns d').length := ⟨_, rfl⟩
    rw [← hn5] at CM
    rw [← hn6] at G7
    rw [← hn5]
    rw [← hn5, ← hn6] at hk2
    rw [← hn6] at hk3
    have f1 : decide ((n5 : Int) > (n6 : Int)) = false := decide_eq_false (by omega)
    have f2 : decide ((n6 : Int) > (n : Int)) = false := decide_eq_false (by omega)
    have f3' : decide (n6 < n5) = false := decide_eq_false (by omega)
    have f4' : decide (n < n6) = false := decide_eq_false (by omega)
    have f1' : decide ((n6 : Int) < (n5 : Int)) = false := decide_eq_false (by omega)
    have f2' : decide ((n : Int) < (n6 : Int)) = false := decide_eq_false (by omega)
    clear hg hM5 hM6 hX7 hB7 hn5 hn6 hk1 hk2 hk3 hk4 HK K1 K2 KA KB
    go_wp2_with fail
    refine CM.out.mono ?_
    rintro e w8 ⟨rfl, hb8⟩
    have X8 := Lib.hid (X7.out.next hb8)
    have B8 := Lib.hid (B7.out.trans (hb8.mono B7.out.size))
    have g8 : w8.cell? ⟨gb, 0, none⟩ = some (.slice p6 n6 c6) := (hb8.cell (p := ⟨gb, 0, none⟩) (World.block_lt_of_cell? wc _ G7.out)).trans G7.out
    obtain ⟨x0, x1, x2, x3, x4, x5, x6, x7⟩ := FC8.out _ X8.out
    have T2 := Lib.hid (TA.out w8 B8.out (by have := HLn.out; omega))
    clear hb8
    go_wp2_with fail
    refine T2.out.mono ?_
    rintro e w9 ⟨rfl, hb9⟩
    have B9 := Lib.hid (B8.out.trans (hb9.mono B8.out.size))
    have X9 := Lib.hid (X8.out.next hb9)
    clear hb9 x0 x1 x2 x3 x4 x5 x6 x7
    obtain ⟨Wa, hWa⟩ : ∃ W5, W5 = w9.alloc (.cells #[.int .i64 A, .int .i64 B] 52) := ⟨_, rfl⟩
    obtain ⟨c, hc⟩ : ∃ c, c = w9.heap.size := ⟨_, rfl⟩
    have Ba : Hid (Below w.heap.size w Wa) := by rw [hWa]; exact B9.out.alloc B9.out.size _
    have Xa : Hid (FilAt Wa b 0 x) := by rw [hWa]; exact X9.out.next ((Below.refl _ _).alloc (Nat.le_refl _) _)
    have Da : Hid (HoldsN 2 Wa c (fun i => ([.int .i64 A, .int .i64 B] : List Value).getD i undef)) := by rw [hWa, hc]; exact HoldsN.new w9 [.int .i64 A, .int .i64 B] 52 2 rfl
    obtain ⟨x0, x1, x2, x3, x4, x5, x6, x7⟩ := FC8.out _ Xa.out
    rw [hWa] at x0 x1 x2 x3 x4 x5 x6 x7
    have T3 := Lib.hid (TB.out Wa Ba.out (by have := HLn.out; omega))
    rw [hWa] at T3
    go_wp2_with fail
    try rw [← hWa]
    try rw [← hc]
    rw [← hWa] at T3
    clear hWa hc x0 x1 x2 x3 x4 x5 x6 x7
    refine T3.out.mono ?_
    rintro e w10 ⟨rfl, hb10⟩
    have Bb := Lib.hid (Ba.out.trans (hb10.mono Ba.out.size))
    have Xb := Lib.hid (Xa.out.next hb10)
    have Db := Lib.hid (Da.out.next hb10)
    clear hb10
    obtain ⟨Wd, hWd⟩ : ∃ W5, W5 = w10.alloc (.cells #[.int .i64 A', .int .i64 B'] 52) := ⟨_, rfl⟩
    obtain ⟨c', hc'⟩ : ∃ c, c = w10.heap.size := ⟨_, rfl⟩
    have Bd : Hid (Below w.heap.size w Wd) := by rw [hWd]; exact Bb.out.alloc Bb.out.size _
    have Xd : Hid (FilAt Wd b 0 x) := by rw [hWd]; exact Xb.out.next ((Below.refl _ _).alloc (Nat.le_refl _) _)
    have Dd : Hid (HoldsN 2 Wd c' (fun i => ([.int .i64 A', .int .i64 B'] : List Value).getD i undef)) := by rw [hWd, hc']; exact HoldsN.new w10 [.int .i64 A', .int .i64 B'] 52 2 rfl
    have De : Hid (HoldsN 2 Wd c (fun i => ([.int .i64 A, .int .i64 B] : List Value).getD i undef)) := by rw [hWd]; exact HoldsN.next Db.out ((Below.refl _ _).alloc (Nat.le_refl _) _)
    have d1 := Dd.out.cell 1 (by omega); have d2 := De.out.cell 1 (by omega)
    obtain ⟨x0, x1, x2, x3, x4, x5, x6, x7⟩ := FC8.out _ Xd.out
    have S0 := Lib.hid (FC8.out Wd Xd.out)
    have S00 := Lib.hid (FC8.out Wd.drew Xd.out.drew)
    have f4 : decide (S1 ≤ S2) = true := decide_eq_true HS.out
    have zd : c' < Wd.heap.size := Dd.out.1
    rw [hWd] at x0 x1 x2 x3 x4 x5 x6 x7 d1 d2
    rw [hc'] at d1
    rcases (show O = false ∨ (O = true ∧ O' = true ∧ B ≤ B') from by
      cases hO : O with
      | false => exact .inl rfl
      | true => exact .inr ⟨rfl, HO.out hO⟩) with hO | ⟨hO, hO', hBB⟩
    · subst hO
      go_wp2_with fail
      try rw [← hWd]
      try rw [← hc']
      try rw [← hWd] at x0 x1 x2 x3 x4 x5 x6 x7
      clear hWd hc' d1 d2
      go_region_held3 (fun v => (v.cell? ⟨b, 0, none⟩ = some (.int .i64 x.id) ∧ v.cell? ⟨b, 1, none⟩ = some (.int .i64 x.of) ∧ v.cell? ⟨b, 2, none⟩ = some (.int .i64 x.op) ∧ v.cell? ⟨b, 3, none⟩ = some (.int .i64 x.cl) ∧ v.cell? ⟨b, 4, none⟩ = some (.string x.c) ∧ v.cell? ⟨b, 5, none⟩ = some (.string x.t) ∧ v.cell? ⟨b, 6, none⟩ = some (.int .i64 x.pt) ∧ v.cell? ⟨b, 7, none⟩ = some (.slice x.np n x.nc))) (first | with_reducible exact S00.out | with_reducible exact S0.out | with_reducible assumption | exact S0.out | assumption)
        (first
          | (go_at_call 29; (with_reducible refine (SA.out _).mono ?_); rintro e wp ⟨rfl, hbp⟩
             have YA : Hid (FilAt wp b 0 x) := by first | exact FilAt.next YB.out hbp | exact FilAt.next Xd.out.drew hbp
             have ZA : Hid (Below w.heap.size w wp) := by first | exact ZB.out.trans (hbp.mono ZB.out.size) | exact (below_drewN Bd.out 1).trans (hbp.mono Bd.out.size)
             have hsA := FC8.out wp YA.out)
          | (go_at_call 29; (with_reducible refine (SB.out _).mono ?_); rintro e wq ⟨rfl, hbq⟩
             have YB : Hid (FilAt wq b 0 x) := by first | exact FilAt.next YA.out hbq | exact FilAt.next Xd.out.drew hbq
             have ZB : Hid (Below w.heap.size w wq) := by first | exact ZA.out.trans (hbq.mono ZA.out.size) | exact (below_drewN Bd.out 1).trans (hbq.mono Bd.out.size)
             have hsB := FC8.out wq YB.out))
      all_goals
        go_wp2_with fail
        go_ret
        first | exact ⟨rfl, ZA.out⟩ | exact ⟨rfl, ZB.out⟩
    · subst hO
      subst hO'
      have f5 : decide (B' < B) = false := decide_eq_false (by omega)
      go_wp2_with fail
      try rw [← hWd]
      try rw [← hc']
      try rw [← hWd] at x0 x1 x2 x3 x4 x5 x6 x7
      clear hWd hc' d1 d2
      go_region_held3 (fun v => (v.cell? ⟨b, 0, none⟩ = some (.int .i64 x.id) ∧ v.cell? ⟨b, 1, none⟩ = some (.int .i64 x.of) ∧ v.cell? ⟨b, 2, none⟩ = some (.int .i64 x.op) ∧ v.cell? ⟨b, 3, none⟩ = some (.int .i64 x.cl) ∧ v.cell? ⟨b, 4, none⟩ = some (.string x.c) ∧ v.cell? ⟨b, 5, none⟩ = some (.string x.t) ∧ v.cell? ⟨b, 6, none⟩ = some (.int .i64 x.pt) ∧ v.cell? ⟨b, 7, none⟩ = some (.slice x.np n x.nc))) (first | with_reducible exact S00.out | with_reducible exact S0.out | with_reducible assumption | exact S0.out | assumption)
        (first
          | (go_at_call 29; (with_reducible refine (SA.out _).mono ?_); rintro e wp ⟨rfl, hbp⟩
             have YA : Hid (FilAt wp b 0 x) := by first | exact FilAt.next YB.out hbp | exact FilAt.next Xd.out.drew hbp
             have ZA : Hid (Below w.heap.size w wp) := by first | exact ZB.out.trans (hbp.mono ZB.out.size) | exact (below_drewN Bd.out 1).trans (hbp.mono Bd.out.size)
             have hsA := FC8.out wp YA.out)
          | (go_at_call 29; (with_reducible refine (SB.out _).mono ?_); rintro e wq ⟨rfl, hbq⟩
             have YB : Hid (FilAt wq b 0 x) := by first | exact FilAt.next YA.out hbq | exact FilAt.next Xd.out.drew hbq
             have ZB : Hid (Below w.heap.size w wq) := by first | exact ZA.out.trans (hbq.mono ZA.out.size) | exact (below_drewN Bd.out 1).trans (hbq.mono Bd.out.size)
             have hsB := FC8.out wq YB.out))
      all_goals
        go_wp2_with fail
        go_ret
        first | exact ⟨rfl, ZA.out⟩ | exact ⟨rfl, ZB.out⟩

theorem u16_range {x : Int} (h : (Lit.int .u16 x).wf = true) : 0 ≤ x ∧ x ≤ 65535 := by
  have e1 : IntKind.u16.min = 0 := by decide +kernel
  have e2 : IntKind.u16.max = 65535 := by decide +kernel
  rw [Lit.wf, e1, e2, Bool.and_eq_true, decide_eq_true_eq, decide_eq_true_eq] at h
  exact h

set_option maxRecDepth 100000 in
theorem learns_lifted (os : Os) (started : os.Started) (H : Type) (enc : TypeId × Value → H) :
    ReturnsInHanded {} Tryz.checked os 6 .any (fun w args => (Rows.fileLearnsSpec.pre enc Tryz.prog Tryz.f6 [] false w args ∧ laidMetH Tryz.prog laid7 w) ∧ sizedMet enc Tryz.prog Tryz.f6 (OpenSpec.ofChange Rows.fileLearnsSpec) false w args)
      (Rows.fileLearnsSpec.post enc Tryz.prog Tryz.f6 false true false false) := by
  refine wrap (s := Rows.fileLearnsSpec) started (by kernel_rfl) Tryz.func6
    (ChangeSpec.witness_shaped (enc := enc) (C := Tryz.checked) (os := os) (X := fun w _ => laidMetH Tryz.prog laid7 w) false (World.laidAll Tryz.prog os laid7) #[.agg #[.int .i64 0, .int .i64 0, .int .i64 0, .int .i64 0, .string ⟨#[]⟩, .string ⟨#[]⟩, .int .i64 0, .slice none 0 0], .string ⟨#[]⟩, .int .i64 0, .int .u16 0] 8 (World.laidAll_os _ _ _)
      (World.shaped_of_ZipB (by kernel_rfl) (by kernel_rfl)) (by kernel_rfl) (by kernel_rfl) (by kernel_rfl) (laid_met os _)) ?_
  intro W base args ds gs before hval0 hW hE
  have hval : ∀ (j : Nat) t v, Tryz.f6.params[j]? = some t → args[j]? = some v → Value.okWide Tryz.prog W .any base t v := hval0
  have hW' := hW
  obtain ⟨p, q, hA0, hV, rfl, hfz, hnd⟩ := hW
  have hA : DataW.TrodAll enc Tryz.prog W 0 (fun _ => true) true Tryz.f6.params.toList args.toList ds p := hA0
  rw [Tryz.params6] at hA hval
  obtain ⟨v0, v1, v2, v3, d0, d1, d2, d3, p0, p1, p2, p3, rfl, rfl, rfl, h0, h1, h2, h3⟩ := trodAll_four hA
  obtain ⟨rfl, rfl⟩ := trodVars_none hV
  obtain ⟨x0, rfl, g0⟩ := open_fil (hval 0 48 v0 rfl rfl) h0
  obtain ⟨s1, rfl, rfl, rfl, z1⟩ := Go.ChangeMaps.open_string Tryz.underlying9 (hval 1 9 v1 rfl rfl) h1
  obtain ⟨i2, rfl, rfl, rfl, w2⟩ := Go.ChangeShapes.open_int Tryz.underlying3 (hval 2 3 v2 rfl rfl) h2
  obtain ⟨i3, rfl, rfl, rfl, w3⟩ := Go.ChangeShapes.open_int Tryz.underlying59 (hval 3 59 v3 rfl rfl) h3
  refine (learns_law x0 s1 i2 i3 W hE g0 (u16_range w3).1 (u16_range w3).2).mono fun e W' ⟨he, hb⟩ => ?_
  subst he
  exact ⟨_, rfl, post_true rfl rfl (by kernel_rfl) hW' rfl hb⟩

theorem learns_said : Rows.FileLearnsSaid :=
  OpenClaim.holds_of_wide 6 Tryz.f6 rfl rfl rfl rfl rfl rfl rfl ⟨rfl, rfl, rfl, rfl, rfl⟩ rfl rfl rfl rfl rfl (by kernel_rfl) Tryz.func6 (by kernel_rfl)
    (of_decide_eq_true (by kernel_rfl)) (by unfold Func.isWrapper; first | (rw [if_pos (by decide +kernel)]; kernel_rfl) | (rw [if_neg (by decide +kernel)]; exact ⟨rfl, rfl⟩))
    (fun os started H enc _ => learns_lifted os started H enc)

theorem learns_holds : Rows.FileLearnsCardSaid :=
  Claim7.holds_tied_plain_at .later [] [.data, .data, .data, .data, .sentinel, .sentinel, .pinned] true (true, "c80df58f0cb825ccc474b2251b69f38e8d8aabfc275a480989717639d46b41a4") true
    learns_said (fun _ h => by cases h) (by kernel_rfl) (fun _ h => by cases h) fileLearns_row_tie rfl ⟨rfl, rfl⟩ (by kernel_rfl) rfl
    (fun f fn hf hfn => by
      obtain rfl : f = 6 := Option.some.inj ((show Tryz.prog.funcNamed "archivum/archivumlaw08.FileLearns" = some 6 by kernel_rfl).symm.trans hf) |>.symm
      obtain rfl : fn = Tryz.f6 := (Option.some.inj (Tryz.func6.symm.trans hfn)).symm
      exact ⟨by kernel_rfl, fun j t ht => by
        rw [Tryz.params6] at ht
        have hm : t ∈ [48, 9, 3, 59] := by simpa using Array.mem_of_getElem? ht
        have hall : ([48, 9, 3, 59].all fun u => !Tryz.prog.wantsStandIn u) = true := by kernel_rfl
        exact (show Tryz.prog.wantsStandIn t = false by simpa using List.all_eq_true.1 hall t hm)⟩)
    (by kernel_rfl)
#print axioms learns_holds

end Go.Proofs.YtjnlbjlejggngaaGreatDoor
