/-
  PROVED HERE: the law archivumlaw08.FileLatest answers true for every file, name and day: a trigger that is no opening or closing is the dating of a known note with its name, and none such ends later. Condition: the listed variables hold what the program's text lays in them. Every input is spoken of.
-/
import Derived.Test.YtjnlbjlejggngaaGreatDoorFw
namespace Go.Proofs.YtjnlbjlejggngaaGreatDoor
open Go Go.RowKit Go.ChangeShapes Go.WideShapes Go.ChangeAt Go.Joins

/-- A note counts for a trigger. -/
def cnt (s : ByteArray) (d : Int) (y : Nt) : Prop := y.s = s ∧ y.r ≤ d

theorem fil_cells (w : World) (x : Fil) (b : Nat) (h : FilAt w b 0 x) : w.cell? ⟨b, 0, none⟩ = some (.int .i64 x.id) ∧ w.cell? ⟨b, 1, none⟩ = some (.int .i64 x.of) ∧ w.cell? ⟨b, 2, none⟩ = some (.int .i64 x.op) ∧ w.cell? ⟨b, 3, none⟩ = some (.int .i64 x.cl) ∧ w.cell? ⟨b, 4, none⟩ = some (.string x.c) ∧ w.cell? ⟨b, 5, none⟩ = some (.string x.t) ∧ w.cell? ⟨b, 6, none⟩ = some (.int .i64 x.pt) ∧ w.cell? ⟨b, 7, none⟩ = some (.slice x.np x.ns.length x.nc) :=
  ⟨h.c0, h.c1, h.c2, h.c3, h.c4, h.c5, h.c6, h.c7⟩

set_option maxRecDepth 100000 in
set_option maxHeartbeats 8000000 in
theorem latest_law (x : Fil) (s : ByteArray) (d : Int) (w : World) (hE : Env w) (hN : NtsAt w x.np x.ns) :
    Calls Tryz.prog 7 #[x.val, .string s, .int .i64 d] w fun e w' => e = .returned (.bool true) ∧ Below w.heap.size w w' := by
  obtain ⟨W1, hW1⟩ : ∃ W1, W1 = w.alloc (.cells x.cells 48) := ⟨_, rfl⟩
  have B1 : Hid (Below w.heap.size w W1) := by rw [hW1]; exact (Below.refl _ _).alloc (Nat.le_refl _) _
  obtain ⟨b, hb⟩ : ∃ b, b = w.heap.size := ⟨_, rfl⟩
  have X1 : Hid (FilAt W1 b 0 x) := by rw [hW1, hb]; exact fil_new w x 48
  have N0 := Lib.hid hN
  have E0 := Lib.hid hE
  have HB := Lib.hid hb
  have FA := Lib.hid (fun (w2 : World) (h : Below w.heap.size w w2) => Few_any x w2.heap.size (w2.alloc (.cells x.cells 48)) (fil_new w2 x 48) ((N0.out.next h).next ((Below.refl _ _).alloc (Nat.le_refl _) _)))
  have TA := Lib.hid (fun (w2 : World) (h : Below w.heap.size w w2) (hn : x.ns.length ≤ 1000000000) => Trigger_any x s d w2 (N0.out.next h) hn)
  obtain ⟨F, hF⟩ : ∃ F, F = fewF x := ⟨_, rfl⟩
  rw [← hF] at FA
  have HF := Lib.hid hF
  unfold Fil.val Fil.cells at TA ⊢
  unfold Fil.cells at hW1 FA
  obtain ⟨n, hl⟩ : ∃ n, x.ns.length = n := ⟨_, rfl⟩
  have HL := Lib.hid hl
  have FC := Lib.hid (fun w2 h => fil_cells w2 x b h)
  rw [hl] at FA TA hW1 ⊢
  clear hE hN hF hl
  go_enter Tryz.func7, Tryz.ntmps7
  go_wp2_with fail
  rw [← hW1, ← hb]
  clear hW1 hb
  go_wp2_with fail
  refine (awakeF_true _ (E0.out.below B1.out)).mono ?_
  rintro e w2 ⟨rfl, hb⟩
  have B2 := Lib.hid (B1.out.trans (hb.mono B1.out.size))
  have X2 := Lib.hid (X1.out.next hb)
  clear hb
  obtain ⟨x0, x1, x2, x3, x4, x5, x6, x7⟩ := FC.out _ X2.out
  rw [HL.out] at x7
  go_wp2_with fail
  refine (FA.out w2 B2.out).mono ?_
  rintro e w3 ⟨rfl, hb⟩
  have B3 : Hid (Below w.heap.size w w3) := B2.out.trans (((Below.refl _ _).alloc (Nat.le_refl _) _).trans (hb.mono (by simp)) |>.mono B2.out.size)
  have X3 : Hid (FilAt w3 b 0 x) := (X2.out.next ((Below.refl _ _).alloc (Nat.le_refl _) _)).next hb
  clear hb x0 x1 x2 x3 x4 x5 x6 x7
  cases F with
  | false =>
    go_wp2_with fail
    go_ret
    exact ⟨rfl, by first | exact B3.out | (rw [HB.out]; exact B3.out)⟩
  | true =>
  by_cases g1 : s = ⟨#[111, 112, 101, 110, 101, 100]⟩
  · have e1 := op_eq g1 [111, 112, 101, 110, 101, 100] (by rw [tl]; rfl)
    clear g1
    go_wp2_with fail
    go_ret
    exact ⟨rfl, by first | exact B3.out | (rw [HB.out]; exact B3.out)⟩
  have e1 := op_ne g1 [111, 112, 101, 110, 101, 100] (by rw [tl]; rfl)
  by_cases g2 : s = ⟨#[99, 108, 111, 115, 101, 100]⟩
  · have e2 := op_eq g2 [99, 108, 111, 115, 101, 100] (by rw [tl]; rfl)
    clear g1 g2
    go_wp2_with fail
    go_ret
    exact ⟨rfl, by first | exact B3.out | (rw [HB.out]; exact B3.out)⟩
  have e2 := op_ne g2 [99, 108, 111, 115, 101, 100] (by rw [tl]; rfl)
  have FW := fewF_iff.1 HF.out.symm
  have HT : Hid (trgO x s d = trig x.ns s d) := by show _ = _; unfold trgO; rw [if_neg g1, if_neg g2]
  obtain ⟨A, B, O, ho, hcase⟩ : ∃ A B O, datV (trgO x s d) = .tuple #[.agg #[.int .i64 A, .int .i64 B], .bool O] ∧ ((O = false ∧ A = 0 ∧ B = 0 ∧ ∀ y ∈ x.ns, ¬ cnt s d y) ∨ (O = true ∧ (∃ y ∈ x.ns, cnt s d y ∧ y.a = A ∧ y.b = B) ∧ ∀ y ∈ x.ns, cnt s d y → y.b ≤ B)) := by
    rw [HT.out]
    rcases trig_is x.ns s d with ⟨h1, h2⟩ | ⟨a, c, h1, ⟨y, h2, h3, h4, h5, h6⟩, h7⟩
    · rw [h1]
      exact ⟨0, 0, false, rfl, .inl ⟨rfl, rfl, rfl, fun y hy hc => h2 y hy hc.1 hc.2⟩⟩
    · rw [h1]
      exact ⟨a, c, true, rfl, .inr ⟨rfl, ⟨y, h2, ⟨h3, h4⟩, h5, h6⟩, fun y hy hc => h7 y hy hc.1 hc.2⟩⟩
  have HC := Lib.hid hcase
  have hn20 : n ≤ 20 := by have := FW.1; have := HL.out; omega
  have T2 := TA.out w3 B3.out (by omega)
  rw [ho] at T2
  have T3 := Lib.hid T2
  obtain ⟨x0, x1, x2, x3, x4, x5, x6, x7⟩ := FC.out _ X3.out
  rw [HL.out] at x7
  clear g1 g2 FW T2 ho hcase
  go_wp2_with fail
  refine T3.out.mono ?_
  rintro e w4 ⟨rfl, hb⟩
  have B4 := Lib.hid (B3.out.trans (hb.mono B3.out.size))
  have X4 := Lib.hid (X3.out.next hb)
  clear hb x0 x1 x2 x3 x4 x5 x6 x7
  obtain ⟨W5, hW5⟩ : ∃ W5, W5 = w4.alloc (.cells #[.int .i64 A, .int .i64 B] 52) := ⟨_, rfl⟩
  obtain ⟨c, hc⟩ : ∃ c, c = w4.heap.size := ⟨_, rfl⟩
  have B5 : Hid (Below w.heap.size w W5) := by rw [hW5]; exact B4.out.alloc B4.out.size _
  have X5 : Hid (FilAt W5 b 0 x) := by rw [hW5]; exact X4.out.next ((Below.refl _ _).alloc (Nat.le_refl _) _)
  have D5 : Hid (HoldsN 2 W5 c (fun i => ([.int .i64 A, .int .i64 B] : List Value).getD i undef)) := by rw [hW5, hc]; exact HoldsN.new w4 [.int .i64 A, .int .i64 B] 52 2 rfl
  obtain ⟨x0, x1, x2, x3, x4, x5, x6, x7⟩ := FC.out _ X5.out
  rw [HL.out] at x7
  rw [hW5] at x0 x1 x2 x3 x4 x5 x6 x7
  go_wp2_with fail
  try rw [← hW5]
  try rw [← hc]
  clear hW5 hc x0 x1 x2 x3 x4 x5 x6 x7
  go_loopw [9, 36] (fun f i wr => ∃ (k : Nat) (Fd : Bool), k ≤ n ∧ f = .bool Fd ∧ i = .int .i64 k ∧ (Fd = true ↔ ∃ (j : Nat) (y : Nt), j < k ∧ x.ns[j]? = some y ∧ cnt s d y ∧ y.a = A ∧ y.b = B) ∧ Below W5.heap.size W5 wr) (fun _ i _ => n - (intOf i).toNat)
  case atStart => exact ⟨0, false, Nat.zero_le _, rfl, rfl, ⟨fun h => (by cases h), fun ⟨j, y, h, _⟩ => absurd h (Nat.not_lt_zero _)⟩, Below.refl _ _⟩
  case round =>
    obtain ⟨k, Fd, hk, rfl, rfl, hfd, hb⟩ := hrel
    have HFd := Lib.hid hfd
    have NB := Lib.hid hb
    have D6 := Lib.hid (D5.out.next hb)
    have c0 := D6.out.cell 0 (by omega); have c1 := D6.out.cell 1 (by omega)
    have zc := D6.out.1
    by_cases hkn : k < n
    · obtain ⟨y, hy⟩ : ∃ y, x.ns[k]? = some y := ⟨_, List.getElem?_eq_getElem (by rw [HL.out]; exact hkn)⟩
      obtain ⟨blk, off, hnp, hpc⟩ := (N0.out.next B5.out).get hy
      have PW := Lib.hid (hpc.next hb)
      have HY := Lib.hid hy
      have hkd : decide ((k : Int) < (n : Int)) = true := by simp; omega
      have q0 := PW.out.1; have q1 := PW.out.2.1; have q2 := PW.out.2.2.1; have q3 := PW.out.2.2.2
      have zb := PW.out.lt
      rw [hnp]
      have step : ∀ Fd' : Bool, (Fd' = true ↔ Fd = true ∨ (cnt s d y ∧ y.a = A ∧ y.b = B)) → (Fd' = true ↔ ∃ (j : Nat) (z : Nt), j < k + 1 ∧ x.ns[j]? = some z ∧ cnt s d z ∧ z.a = A ∧ z.b = B) := by
        intro Fd' h
        rw [h, HFd.out]
        constructor
        · rintro (⟨j, z, h1, h2⟩ | h1)
          · exact ⟨j, z, by omega, h2⟩
          · exact ⟨k, y, by omega, HY.out, h1⟩
        · rintro ⟨j, z, h1, h2, h3⟩
          rcases (show j < k ∨ j = k by omega) with g | g
          · exact .inl ⟨j, z, g, h2, h3⟩
          · subst g
            obtain rfl : y = z := Option.some.inj (HY.out.symm.trans h2)
            exact .inr h3
      have ST := Lib.hid step
      clear hb hpc hy hfd step
      by_cases hs : y.s = s
      · have es := ba_eq' hs
        have es2 : (y.s.toList != s.toList) = false := by rw [bne, es]; rfl
        by_cases hr : y.r ≤ d
        · have er : decide (y.r > d) = false := by simp; omega
          have hcn : Hid (cnt s d y) := ⟨hs, hr⟩
          have hO : O = true ∧ y.b ≤ B := by
            rcases HC.out with ⟨_, _, _, h⟩ | ⟨h1, _, h3⟩
            · exact absurd hcn.out (h y (List.mem_of_getElem? HY.out))
            · exact ⟨h1, h3 y (List.mem_of_getElem? HY.out) hcn.out⟩
          obtain ⟨rfl, hyb⟩ := hO
          have eb : decide (y.b > B) = false := by simp; omega
          clear hs hr hyb
          cases Fd with
          | true =>
            go_wp2_with fail
            go_roundw
            case rel => exact ⟨k + 1, true, hkn, rfl, by go_num, ST.out true ⟨fun _ => .inl rfl, fun _ => rfl⟩, NB.out.alloc NB.out.size _⟩
            case measure => simp [intOf]; omega
          | false =>
            by_cases ha : y.a = A
            · have eA : (y.a == A) = true := by simp [ha]
              have HA := Lib.hid ha
              clear ha
              by_cases hbb : y.b = B
              · have eB : (y.b == B) = true := by simp [hbb]
                have HBB := Lib.hid hbb
                clear hbb
                go_wp2_with fail
                go_roundw
                case rel => exact ⟨k + 1, true, hkn, rfl, by go_num, ST.out true ⟨fun _ => .inr ⟨hcn.out, HA.out, HBB.out⟩, fun _ => rfl⟩, NB.out.alloc NB.out.size _⟩
                case measure => simp [intOf]; omega
              · have eB : (y.b == B) = false := by simp [hbb]
                have HBB := Lib.hid hbb
                clear hbb
                go_wp2_with fail
                go_roundw
                case rel => exact ⟨k + 1, false, hkn, rfl, by go_num, ST.out false ⟨fun h => (by cases h), fun h => h.elim id (fun g => absurd g.2.2 HBB.out)⟩, NB.out.alloc NB.out.size _⟩
                case measure => simp [intOf]; omega
            · have eA : (y.a == A) = false := by simp [ha]
              have HA := Lib.hid ha
              clear ha
              go_wp2_with fail
              go_roundw
              case rel => exact ⟨k + 1, false, hkn, rfl, by go_num, ST.out false ⟨fun h => (by cases h), fun h => h.elim id (fun g => absurd g.2.1 HA.out)⟩, NB.out.alloc NB.out.size _⟩
              case measure => simp [intOf]; omega
        · have er : decide (y.r > d) = true := by simp; omega
          have hcn : ¬ cnt s d y := fun h => hr h.2
          have HN := Lib.hid hcn
          clear hs hr hcn
          go_wp2_with fail
          go_roundw
          case rel => exact ⟨k + 1, Fd, hkn, rfl, by go_num, ST.out Fd ⟨fun h => .inl h, fun h => h.elim id (fun g => absurd g.1 HN.out)⟩, NB.out.alloc NB.out.size _⟩
          case measure => simp [intOf]; omega
      · have es := ba_ne' hs
        have es2 : (y.s.toList != s.toList) = true := by rw [bne, es]; rfl
        have hcn : ¬ cnt s d y := fun h => hs h.1
        have HN := Lib.hid hcn
        clear hs hcn
        go_wp2_with fail
        go_roundw
        case rel => exact ⟨k + 1, Fd, hkn, rfl, by go_num, ST.out Fd ⟨fun h => .inl h, fun h => h.elim id (fun g => absurd g.1 HN.out)⟩, NB.out.alloc NB.out.size _⟩
        case measure => simp [intOf]; omega
    · have hkd : decide ((k : Int) < (n : Int)) = false := by simp; omega
      have BF : Hid (Below w.heap.size w wr) := B5.out.trans (NB.out.mono B5.out.size)
      have hFO : Fd = O ∧ (O = false → A = 0 ∧ B = 0) := by
        rcases HC.out with ⟨h1, h2, h3, h4⟩ | ⟨h1, ⟨y, h2, h3, h4⟩, _⟩
        · subst h1
          refine ⟨?_, fun _ => ⟨h2, h3⟩⟩
          cases Fd with
          | false => rfl
          | true =>
            obtain ⟨j, y, _, g2, g3, _⟩ := HFd.out.1 rfl
            exact absurd g3 (h4 y (List.mem_of_getElem? g2))
        · subst h1
          refine ⟨?_, fun h => by cases h⟩
          obtain ⟨j, hj⟩ := List.getElem?_of_mem h2
          exact HFd.out.2 ⟨j, y, by have := (List.getElem?_eq_some_iff.1 hj).1; have := HL.out; omega, hj, h3, h4⟩
      obtain ⟨rfl, h0⟩ := hFO
      have H0 := Lib.hid h0
      clear hb hfd h0
      cases Fd with
      | true =>
        go_wp2_with fail
        go_ret
        exact ⟨rfl, by first | exact BF.out | (rw [HB.out]; exact BF.out)⟩
      | false =>
        obtain ⟨rfl, rfl⟩ := H0.out rfl
        go_wp2_with fail
        go_ret
        exact ⟨rfl, by first | exact BF.out | (rw [HB.out]; exact BF.out)⟩

set_option maxRecDepth 100000 in
theorem latest_lifted (os : Os) (started : os.Started) (H : Type) (enc : TypeId × Value → H) :
    ReturnsInHanded {} Tryz.checked os 7 .any (fun w args => (Rows.fileLatestSpec.pre enc Tryz.prog Tryz.f7 [] false w args ∧ laidMetH Tryz.prog laid7 w) ∧ sizedMet enc Tryz.prog Tryz.f7 (OpenSpec.ofChange Rows.fileLatestSpec) false w args)
      (Rows.fileLatestSpec.post enc Tryz.prog Tryz.f7 false true false false) := by
  refine wrap (s := Rows.fileLatestSpec) started (by kernel_rfl) Tryz.func7
    (ChangeSpec.witness_shaped (enc := enc) (C := Tryz.checked) (os := os) (X := fun w _ => laidMetH Tryz.prog laid7 w) false (World.laidAll Tryz.prog os laid7) #[.agg #[.int .i64 0, .int .i64 0, .int .i64 0, .int .i64 0, .string ⟨#[]⟩, .string ⟨#[]⟩, .int .i64 0, .slice none 0 0], .string ⟨#[]⟩, .int .i64 0] 8 (World.laidAll_os _ _ _)
      (World.shaped_of_ZipB (by kernel_rfl) (by kernel_rfl)) (by kernel_rfl) (by kernel_rfl) (by kernel_rfl) (laid_met os _)) ?_
  intro W base args ds gs before hval0 hW hE
  have hval : ∀ (j : Nat) t v, Tryz.f7.params[j]? = some t → args[j]? = some v → Value.okWide Tryz.prog W .any base t v := hval0
  have hW' := hW
  obtain ⟨p, q, hA0, hV, rfl, hfz, hnd⟩ := hW
  have hA : DataW.TrodAll enc Tryz.prog W 0 (fun _ => true) true Tryz.f7.params.toList args.toList ds p := hA0
  rw [Tryz.params7] at hA hval
  obtain ⟨v0, v1, v2, d0, d1, d2, p0, p1, p2, rfl, rfl, rfl, h0, h1, h2⟩ := trodAll_three hA
  obtain ⟨rfl, rfl⟩ := trodVars_none hV
  obtain ⟨x0, rfl, g0⟩ := open_fil (hval 0 48 v0 rfl rfl) h0
  obtain ⟨s1, rfl, rfl, rfl, z1⟩ := Go.ChangeMaps.open_string Tryz.underlying9 (hval 1 9 v1 rfl rfl) h1
  obtain ⟨i2, rfl, rfl, rfl, w2⟩ := Go.ChangeShapes.open_int Tryz.underlying3 (hval 2 3 v2 rfl rfl) h2
  refine (latest_law x0 s1 i2 W hE g0).mono fun e W' ⟨he, hb⟩ => ?_
  subst he
  exact ⟨_, rfl, post_true rfl rfl (by kernel_rfl) hW' rfl hb⟩

theorem latest_said : Rows.FileLatestSaid :=
  OpenClaim.holds_of_wide 7 Tryz.f7 rfl rfl rfl rfl rfl rfl rfl ⟨rfl, rfl, rfl, rfl, rfl⟩ rfl rfl rfl rfl rfl (by kernel_rfl) Tryz.func7 (by kernel_rfl)
    (of_decide_eq_true (by kernel_rfl)) (by unfold Func.isWrapper; first | (rw [if_pos (by decide +kernel)]; kernel_rfl) | (rw [if_neg (by decide +kernel)]; exact ⟨rfl, rfl⟩))
    (fun os started H enc _ => latest_lifted os started H enc)

theorem latest_holds : Rows.FileLatestCardSaid :=
  Claim7.holds_tied_plain_at .later [] [.data, .data, .data, .data, .sentinel, .sentinel, .pinned] true (true, "c80df58f0cb825ccc474b2251b69f38e8d8aabfc275a480989717639d46b41a4") true
    latest_said (fun _ h => by cases h) (by kernel_rfl) (fun _ h => by cases h) fileLatest_row_tie rfl ⟨rfl, rfl⟩ (by kernel_rfl) rfl
    (fun f fn hf hfn => by
      obtain rfl : f = 7 := Option.some.inj ((show Tryz.prog.funcNamed "archivum/archivumlaw08.FileLatest" = some 7 by kernel_rfl).symm.trans hf) |>.symm
      obtain rfl : fn = Tryz.f7 := (Option.some.inj (Tryz.func7.symm.trans hfn)).symm
      exact ⟨by kernel_rfl, fun j t ht => by
        rw [Tryz.params7] at ht
        have hm : t ∈ [48, 9, 3] := by simpa using Array.mem_of_getElem? ht
        have hall : ([48, 9, 3].all fun u => !Tryz.prog.wantsStandIn u) = true := by kernel_rfl
        exact (show Tryz.prog.wantsStandIn t = false by simpa using List.all_eq_true.1 hall t hm)⟩)
    (by kernel_rfl)
#print axioms latest_holds

end Go.Proofs.YtjnlbjlejggngaaGreatDoor
