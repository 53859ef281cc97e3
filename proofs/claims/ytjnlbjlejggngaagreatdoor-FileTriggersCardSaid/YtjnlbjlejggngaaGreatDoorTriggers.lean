/-
  PROVED HERE: the law archivumlaw08.FileTriggers answers true for every file, name and day: Known, Trigger and State answer as the reference does. Condition: the listed variables hold what the program's text lays in them. Every input is spoken of.
-/
import Derived.Test.YtjnlbjlejggngaaGreatDoorTt
import Derived.Test.YtjnlbjlejggngaaGreatDoorTs
import Derived.Test.YtjnlbjlejggngaaGreatDoorFw
import Derived.Deep.RegionHeld3
namespace Go.Proofs.YtjnlbjlejggngaaGreatDoor
open Go Go.RowKit Go.ChangeShapes Go.WideShapes Go.ChangeAt Go.Joins

theorem FilAt.drew {w : World} {b o : Nat} {x : Fil} (h : FilAt w b o x) : FilAt w.drew b o x := ⟨h.c0, h.c1, h.c2, h.c3, h.c4, h.c5, h.c6, h.c7⟩
theorem HoldsN.drew1 {n : Nat} {w : World} {b : Nat} {vs : Nat → Value} (h : HoldsN n w b vs) : HoldsN n w.drew b vs := h
theorem fil_cells (w : World) (x : Fil) (b : Nat) (h : FilAt w b 0 x) : w.cell? ⟨b, 0, none⟩ = some (.int .i64 x.id) ∧ w.cell? ⟨b, 1, none⟩ = some (.int .i64 x.of) ∧ w.cell? ⟨b, 2, none⟩ = some (.int .i64 x.op) ∧ w.cell? ⟨b, 3, none⟩ = some (.int .i64 x.cl) ∧ w.cell? ⟨b, 4, none⟩ = some (.string x.c) ∧ w.cell? ⟨b, 5, none⟩ = some (.string x.t) ∧ w.cell? ⟨b, 6, none⟩ = some (.int .i64 x.pt) ∧ w.cell? ⟨b, 7, none⟩ = some (.slice x.np x.ns.length x.nc) :=
  ⟨h.c0, h.c1, h.c2, h.c3, h.c4, h.c5, h.c6, h.c7⟩

set_option maxRecDepth 100000 in
set_option maxHeartbeats 8000000 in
theorem triggers_law (x : Fil) (s : ByteArray) (d : Int) (w : World) (hE : Env w) (hN : NtsAt w x.np x.ns) :
    Calls Tryz.prog 5 #[x.val, .string s, .int .i64 d] w fun e w' => e = .returned (.bool true) ∧ Below w.heap.size w w' := by
  obtain ⟨W1, hW1⟩ : ∃ W1, W1 = w.alloc (.cells x.cells 48) := ⟨_, rfl⟩
  have B1 : Hid (Below w.heap.size w W1) := by rw [hW1]; exact (Below.refl _ _).alloc (Nat.le_refl _) _
  obtain ⟨b, hb⟩ : ∃ b, b = w.heap.size := ⟨_, rfl⟩
  have X1 : Hid (FilAt W1 b 0 x) := by rw [hW1, hb]; exact fil_new w x 48
  have N0 := Lib.hid hN
  have E0 := Lib.hid hE
  have HB := Lib.hid hb
  have FA := Lib.hid (fun (w2 : World) (h : Below w.heap.size w w2) => Few_any x w2.heap.size (w2.alloc (.cells x.cells 48)) (fil_new w2 x 48) ((N0.out.next h).next ((Below.refl _ _).alloc (Nat.le_refl _) _)))
  obtain ⟨A, B, O, ho⟩ := datV_tup (trgO x s d)
  unfold tup at ho
  have TA := Lib.hid (fun (w2 : World) (h : Below w.heap.size w w2) (hn : x.ns.length ≤ 1000000000) => Trigger_any x s d w2 (N0.out.next h) hn)
  have TB := Lib.hid (fun (w2 : World) (h : Below w.heap.size w w2) (hn : x.ns.length ≤ 1000000000) => TrigR_any x s d w2 (N0.out.next h) hn)
  rw [ho] at TA TB
  have KA := Lib.hid (fun (w2 : World) (h : Below w.heap.size w w2) (hn : x.ns.length ≤ 1000000000) => Known_any x d w2 (N0.out.next h) hn)
  have KB := Lib.hid (fun (w2 : World) (h : Below w.heap.size w w2) (hn : x.ns.length ≤ 1000000000) => KnownR_any x d w2 (N0.out.next h) hn)
  have SA := Lib.hid (fun (w2 : World) => State_any x d w2)
  have SB := Lib.hid (fun (w2 : World) => StateR_any x d w2)
  obtain ⟨S1, hS1⟩ : ∃ S, S = staI x d := ⟨_, rfl⟩
  rw [← hS1] at SA SB
  have HKL := Lib.hid (List.length_filter_le (fun y : Nt => decide (y.r ≤ d)) x.ns)
  clear ho hS1
  obtain ⟨F, hF⟩ : ∃ F, F = fewF x := ⟨_, rfl⟩
  rw [← hF] at FA
  have HF := Lib.hid hF
  unfold Fil.val Fil.cells at TA TB KA KB SA SB ⊢
  unfold Fil.cells at hW1 FA
  obtain ⟨n, hl⟩ : ∃ n, x.ns.length = n := ⟨_, rfl⟩
  have HL := Lib.hid hl
  have FC := Lib.hid (fun w2 h => fil_cells w2 x b h)
  rw [hl] at FA TA TB KA KB SA SB hW1 ⊢
  clear hE hN hF hl
  go_enter Tryz.func5, Tryz.ntmps5
  go_wp2_with fail
  rw [← hW1, ← hb]
  clear hW1 hb
  go_wp2_with fail
  refine (awakeF_true _ (E0.out.below B1.out)).mono ?_
  rintro e w2 ⟨rfl, hb⟩
  have B2 := Lib.hid (B1.out.trans (hb.mono B1.out.size))
  have X2 := Lib.hid (X1.out.next hb)
  clear hb
  obtain ⟨x0, x1, x2, x3, x4, x5, x6, x7⟩ := FC.out _ X2.out
  rw [HL.out] at x7
  go_wp2_with fail
  refine (FA.out w2 B2.out).mono ?_
  rintro e w3 ⟨rfl, hb⟩
  have B3 : Hid (Below w.heap.size w w3) := B2.out.trans (((Below.refl _ _).alloc (Nat.le_refl _) _).trans (hb.mono (by simp)) |>.mono B2.out.size)
  have X3 : Hid (FilAt w3 b 0 x) := (X2.out.next ((Below.refl _ _).alloc (Nat.le_refl _) _)).next hb
  clear hb x0 x1 x2 x3 x4 x5 x6 x7
  cases F with
  | false =>
    go_wp2_with fail
    go_ret
    exact ⟨rfl, by first | exact B3.out | (rw [HB.out]; exact B3.out)⟩
  | true =>
  by_cases h1 : 100 < s.size
  · have e1 : decide ((100 : Int) < (s.size : Int)) = true := by simp; omega
    clear h1
    go_wp2_with fail
    go_ret
    exact ⟨rfl, by first | exact B3.out | (rw [HB.out]; exact B3.out)⟩
  have e1 : decide ((100 : Int) < (s.size : Int)) = false := by simp; omega
  have FW := fewF_iff.1 HF.out.symm
  have hn20 : n ≤ 20 := by have := FW.1; have := HL.out; omega
  have FC8 : Hid (∀ w2 : World, FilAt w2 b 0 x → (w2.cell? ⟨b, 0, none⟩ = some (.int .i64 x.id) ∧ w2.cell? ⟨b, 1, none⟩ = some (.int .i64 x.of) ∧ w2.cell? ⟨b, 2, none⟩ = some (.int .i64 x.op) ∧ w2.cell? ⟨b, 3, none⟩ = some (.int .i64 x.cl) ∧ w2.cell? ⟨b, 4, none⟩ = some (.string x.c) ∧ w2.cell? ⟨b, 5, none⟩ = some (.string x.t) ∧ w2.cell? ⟨b, 6, none⟩ = some (.int .i64 x.pt) ∧ w2.cell? ⟨b, 7, none⟩ = some (.slice x.np n x.nc))) := fun w2 h => by
    have := FC.out w2 h
    rw [HL.out] at this
    exact this
  obtain ⟨x0, x1, x2, x3, x4, x5, x6, x7⟩ := FC8.out _ X3.out
  have HLn := Lib.hid hn20
  have hkl : (kn x.ns d).length ≤ 1000000000 := by have := HKL.out; have := HL.out; unfold kn; omega
  have HKN := Lib.hid hkl
  have T4 := Lib.hid (TA.out w3 B3.out (by omega))
  clear h1 FW hkl TA
  go_wp2_with fail
  refine T4.out.mono ?_
  rintro e w4 ⟨rfl, hb⟩
  have B4 := Lib.hid (B3.out.trans (hb.mono B3.out.size))
  have X4 := Lib.hid (X3.out.next hb)
  clear hb x0 x1 x2 x3 x4 x5 x6 x7 T4
  obtain ⟨W5, hW5⟩ : ∃ W5, W5 = w4.alloc (.cells #[.int .i64 A, .int .i64 B] 52) := ⟨_, rfl⟩
  obtain ⟨c, hc⟩ : ∃ c, c = w4.heap.size := ⟨_, rfl⟩
  have B5 : Hid (Below w.heap.size w W5) := by rw [hW5]; exact B4.out.alloc B4.out.size _
  have X5 : Hid (FilAt W5 b 0 x) := by rw [hW5]; exact X4.out.next ((Below.refl _ _).alloc (Nat.le_refl _) _)
  have D5 : Hid (HoldsN 2 W5 c (fun i => ([.int .i64 A, .int .i64 B] : List Value).getD i undef)) := by rw [hW5, hc]; exact HoldsN.new w4 [.int .i64 A, .int .i64 B] 52 2 rfl
  obtain ⟨x0, x1, x2, x3, x4, x5, x6, x7⟩ := FC8.out _ X5.out
  rw [hW5] at x0 x1 x2 x3 x4 x5 x6 x7
  have T6 := Lib.hid (TB.out W5 B5.out (by have := HLn.out; omega))
  rw [hW5] at T6
  clear TB
  go_wp2_with fail
  try rw [← hW5]
  try rw [← hc]
  rw [← hW5] at T6
  clear hW5 hc x0 x1 x2 x3 x4 x5 x6 x7
  refine T6.out.mono ?_
  rintro e w6 ⟨rfl, hb⟩
  have B6 := Lib.hid (B5.out.trans (hb.mono B5.out.size))
  have X6 := Lib.hid (X5.out.next hb)
  have D6 := Lib.hid (D5.out.next hb)
  clear hb T6
  obtain ⟨W7, hW7⟩ : ∃ W5, W5 = w6.alloc (.cells #[.int .i64 A, .int .i64 B] 52) := ⟨_, rfl⟩
  obtain ⟨c', hc'⟩ : ∃ c, c = w6.heap.size := ⟨_, rfl⟩
  have B7 : Hid (Below w.heap.size w W7) := by rw [hW7]; exact B6.out.alloc B6.out.size _
  have X7 : Hid (FilAt W7 b 0 x) := by rw [hW7]; exact X6.out.next ((Below.refl _ _).alloc (Nat.le_refl _) _)
  have D7 : Hid (HoldsN 2 W7 c (fun i => ([.int .i64 A, .int .i64 B] : List Value).getD i undef)) := by rw [hW7]; exact HoldsN.next D6.out ((Below.refl _ _).alloc (Nat.le_refl _) _)
  have E7 : Hid (HoldsN 2 W7 c' (fun i => ([.int .i64 A, .int .i64 B] : List Value).getD i undef)) := by rw [hW7, hc']; exact HoldsN.new w6 [.int .i64 A, .int .i64 B] 52 2 rfl
  have zc : c < W7.heap.size := D7.out.1
  have zc' : c' < W7.heap.size := E7.out.1
  have S12 : Hid (∀ w2 : World, FilAt w2 b 0 x → HoldsN 2 w2 c (fun i => ([.int .i64 A, .int .i64 B] : List Value).getD i undef) → HoldsN 2 w2 c' (fun i => ([.int .i64 A, .int .i64 B] : List Value).getD i undef) → (w2.cell? ⟨b, 0, none⟩ = some (.int .i64 x.id) ∧ w2.cell? ⟨b, 1, none⟩ = some (.int .i64 x.of) ∧ w2.cell? ⟨b, 2, none⟩ = some (.int .i64 x.op) ∧ w2.cell? ⟨b, 3, none⟩ = some (.int .i64 x.cl) ∧ w2.cell? ⟨b, 4, none⟩ = some (.string x.c) ∧ w2.cell? ⟨b, 5, none⟩ = some (.string x.t) ∧ w2.cell? ⟨b, 6, none⟩ = some (.int .i64 x.pt) ∧ w2.cell? ⟨b, 7, none⟩ = some (.slice x.np n x.nc) ∧ w2.cell? ⟨c, 0, none⟩ = some (.int .i64 A) ∧ w2.cell? ⟨c, 1, none⟩ = some (.int .i64 B) ∧ w2.cell? ⟨c', 0, none⟩ = some (.int .i64 A) ∧ w2.cell? ⟨c', 1, none⟩ = some (.int .i64 B))) := fun w2 h1 h2 h3 => by
    obtain ⟨x0, x1, x2, x3, x4, x5, x6, x7⟩ := FC8.out _ h1
    exact ⟨x0, x1, x2, x3, x4, x5, x6, x7, h2.cell 0 (by omega), h2.cell 1 (by omega), h3.cell 0 (by omega), h3.cell 1 (by omega)⟩
  have S0 := Lib.hid (S12.out W7 X7.out D7.out E7.out)
  have S00 := Lib.hid (S12.out W7.drew X7.out.drew D7.out.drew1 E7.out.drew1)
  have K1 := Lib.hid (fun w2 h => KA.out w2 h (by have := HLn.out; omega))
  have K2 := Lib.hid (fun w2 h => KB.out w2 h (by have := HLn.out; omega))
  clear KA KB
  go_wp2_with fail
  try rw [← hW7]
  try rw [← hc']
  clear hW7 hc'
  go_region_held3 (fun v => (v.cell? ⟨b, 0, none⟩ = some (.int .i64 x.id) ∧ v.cell? ⟨b, 1, none⟩ = some (.int .i64 x.of) ∧ v.cell? ⟨b, 2, none⟩ = some (.int .i64 x.op) ∧ v.cell? ⟨b, 3, none⟩ = some (.int .i64 x.cl) ∧ v.cell? ⟨b, 4, none⟩ = some (.string x.c) ∧ v.cell? ⟨b, 5, none⟩ = some (.string x.t) ∧ v.cell? ⟨b, 6, none⟩ = some (.int .i64 x.pt) ∧ v.cell? ⟨b, 7, none⟩ = some (.slice x.np n x.nc) ∧ v.cell? ⟨c, 0, none⟩ = some (.int .i64 A) ∧ v.cell? ⟨c, 1, none⟩ = some (.int .i64 B) ∧ v.cell? ⟨c', 0, none⟩ = some (.int .i64 A) ∧ v.cell? ⟨c', 1, none⟩ = some (.int .i64 B))) (first | with_reducible exact S00.out | with_reducible exact S0.out | with_reducible assumption | exact S0.out | assumption)
    (first
      | (go_at_call 27; (with_reducible refine (K1.out _ ?_).mono ?_); (exact below_drewN B7.out 1); rintro e w8 ⟨v8, rfl, hr8, hb8⟩; obtain ⟨p8, c8, rfl, hN8⟩ := nts_of_row hr8
         have X8 : Hid (FilAt w8 b 0 x) := FilAt.next X7.out.drew hb8
         have D8 := Lib.hid (HoldsN.next D7.out.drew1 hb8)
         have E8 := Lib.hid (HoldsN.next E7.out.drew1 hb8)
         have B8 : Hid (Below w.heap.size w w8) := (below_drewN B7.out 1).trans (hb8.mono B7.out.size)
         have hs8 := S12.out w8 X8.out D8.out E8.out)
      | (go_at_call 28; (with_reducible refine (K2.out _ ?_).mono ?_); (exact B8.out); rintro e w9 ⟨v9, rfl, hr9, hb9⟩; obtain ⟨p9, c9, rfl, hN9⟩ := nts_of_row hr9
         have X9 : Hid (FilAt w9 b 0 x) := FilAt.next X8.out hb9
         have D9 := Lib.hid (HoldsN.next D8.out hb9)
         have E9 := Lib.hid (HoldsN.next E8.out hb9)
         have M8 := Lib.hid (NtsAt.next hN8 hb9)
         have B9 : Hid (Below w.heap.size w w9) := B8.out.trans (hb9.mono B8.out.size)
         have hs9 := S12.out w9 X9.out D9.out E9.out)
      | (go_at_call 26; (with_reducible refine (SameR_any p8 p9 _ c8 c9 (kn x.ns d) w9 M8.out hN9 rfl HKN.out).mono ?_); rintro e wa ⟨rfl, hba⟩
         have Xa : Hid (FilAt wa b 0 x) := FilAt.next X9.out hba
         have Da := Lib.hid (HoldsN.next D9.out hba)
         have Ea := Lib.hid (HoldsN.next E9.out hba)
         have Ba : Hid (Below w.heap.size w wa) := B9.out.trans (hba.mono B9.out.size)
         have hsa := S12.out wa Xa.out Da.out Ea.out)
      | (go_at_call 29; (with_reducible refine (SA.out _).mono ?_); rintro e wb ⟨rfl, hbb⟩
         have Xb : Hid (FilAt wb b 0 x) := FilAt.next Xa.out hbb
         have Db := Lib.hid (HoldsN.next Da.out hbb)
         have Eb := Lib.hid (HoldsN.next Ea.out hbb)
         have Bb : Hid (Below w.heap.size w wb) := Ba.out.trans (hbb.mono Ba.out.size)
         have hsb := S12.out wb Xb.out Db.out Eb.out)
      | (go_at_call 30; (with_reducible refine (SB.out _).mono ?_); rintro e wc ⟨rfl, hbc⟩
         have Xc : Hid (FilAt wc b 0 x) := FilAt.next Xb.out hbc
         have Dc := Lib.hid (HoldsN.next Db.out hbc)
         have Ec := Lib.hid (HoldsN.next Eb.out hbc)
         have Bc : Hid (Below w.heap.size w wc) := Bb.out.trans (hbc.mono Bb.out.size)
         have hsc := S12.out wc Xc.out Dc.out Ec.out))
  all_goals
    go_wp2_with fail
    go_ret
    exact ⟨rfl, Bc.out⟩

set_option maxRecDepth 100000 in
set_option maxHeartbeats 8000000 in
theorem triggers_lifted (os : Os) (started : os.Started) (H : Type) (enc : TypeId × Value → H) :
    ReturnsInHanded {} Tryz.checked os 5 .any (fun w args => (Rows.fileTriggersSpec.pre enc Tryz.prog Tryz.f5 [] false w args ∧ laidMetH Tryz.prog laid7 w) ∧ sizedMet enc Tryz.prog Tryz.f5 (OpenSpec.ofChange Rows.fileTriggersSpec) false w args)
      (Rows.fileTriggersSpec.post enc Tryz.prog Tryz.f5 false true false false) := by
  refine wrap (s := Rows.fileTriggersSpec) started (by kernel_rfl) Tryz.func5
    (ChangeSpec.witness_shaped (enc := enc) (C := Tryz.checked) (os := os) (X := fun w _ => laidMetH Tryz.prog laid7 w) false (World.laidAll Tryz.prog os laid7) #[.agg #[.int .i64 0, .int .i64 0, .int .i64 0, .int .i64 0, .string ⟨#[]⟩, .string ⟨#[]⟩, .int .i64 0, .slice none 0 0], .string ⟨#[]⟩, .int .i64 0] 8 (World.laidAll_os _ _ _)
      (World.shaped_of_ZipB (by kernel_rfl) (by kernel_rfl)) (by kernel_rfl) (by kernel_rfl) (by kernel_rfl) (laid_met os _)) ?_
  intro W base args ds gs before hval0 hW hE
  have hval : ∀ (j : Nat) t v, Tryz.f5.params[j]? = some t → args[j]? = some v → Value.okWide Tryz.prog W .any base t v := hval0
  have hW' := hW
  obtain ⟨p, q, hA0, hV, rfl, hfz, hnd⟩ := hW
  have hA : DataW.TrodAll enc Tryz.prog W 0 (fun _ => true) true Tryz.f5.params.toList args.toList ds p := hA0
  rw [Tryz.params5] at hA hval
  obtain ⟨v0, v1, v2, d0, d1, d2, p0, p1, p2, rfl, rfl, rfl, h0, h1, h2⟩ := trodAll_three hA
  obtain ⟨rfl, rfl⟩ := trodVars_none hV
  obtain ⟨x0, rfl, g0⟩ := open_fil (hval 0 48 v0 rfl rfl) h0
  obtain ⟨s1, rfl, rfl, rfl, z1⟩ := Go.ChangeMaps.open_string Tryz.underlying9 (hval 1 9 v1 rfl rfl) h1
  obtain ⟨i2, rfl, rfl, rfl, w2⟩ := Go.ChangeShapes.open_int Tryz.underlying3 (hval 2 3 v2 rfl rfl) h2
  refine (triggers_law x0 s1 i2 W hE g0).mono fun e W' ⟨he, hb⟩ => ?_
  subst he
  exact ⟨_, rfl, post_true rfl rfl (by kernel_rfl) hW' rfl hb⟩

theorem triggers_said : Rows.FileTriggersSaid :=
  OpenClaim.holds_of_wide 5 Tryz.f5 rfl rfl rfl rfl rfl rfl rfl ⟨rfl, rfl, rfl, rfl, rfl⟩ rfl rfl rfl rfl rfl (by kernel_rfl) Tryz.func5 (by kernel_rfl)
    (of_decide_eq_true (by kernel_rfl)) (by unfold Func.isWrapper; first | (rw [if_pos (by decide +kernel)]; kernel_rfl) | (rw [if_neg (by decide +kernel)]; exact ⟨rfl, rfl⟩))
    (fun os started H enc _ => triggers_lifted os started H enc)

theorem triggers_holds : Rows.FileTriggersCardSaid :=
  Claim7.holds_tied_plain_at .later [] [.data, .data, .data, .data, .sentinel, .sentinel, .pinned] true (true, "c80df58f0cb825ccc474b2251b69f38e8d8aabfc275a480989717639d46b41a4") true
    triggers_said (fun _ h => by cases h) (by kernel_rfl) (fun _ h => by cases h) fileTriggers_row_tie rfl ⟨rfl, rfl⟩ (by kernel_rfl) rfl
    (fun f fn hf hfn => by
      obtain rfl : f = 5 := Option.some.inj ((show Tryz.prog.funcNamed "archivum/archivumlaw08.FileTriggers" = some 5 by kernel_rfl).symm.trans hf) |>.symm
      obtain rfl : fn = Tryz.f5 := (Option.some.inj (Tryz.func5.symm.trans hfn)).symm
      exact ⟨by kernel_rfl, fun j t ht => by
        rw [Tryz.params5] at ht
        have hm : t ∈ [48, 9, 3] := by simpa using Array.mem_of_getElem? ht
        have hall : ([48, 9, 3].all fun u => !Tryz.prog.wantsStandIn u) = true := by kernel_rfl
        exact (show Tryz.prog.wantsStandIn t = false by simpa using List.all_eq_true.1 hall t hm)⟩)
    (by kernel_rfl)
#print axioms triggers_holds

end Go.Proofs.YtjnlbjlejggngaaGreatDoor
