/-
  PROVED HERE: the law archivumlaw03.DatingBack answers true for every dating and text: Parse reads what Format writes; what Parse answers is a valid dating, whose text leads back to it, or an error and nothing. No condition. Every input is spoken of.
-/
import Derived.Test.YtjpiaccpcmlfnaaDoorPz
import Derived.Test.YtjpiaccpcmlfnaaDoorKit
import Derived.Test.YtjpiaccpcmlfnaaDoorLk
namespace Go.Proofs.YtjpiaccpcmlfnaaDoor
open Go.ChangeShapes Go.WideShapes Go.ChangeAt Go.RowKit Go.Joins Cal
open Go.ChangeMaps (open_string)
open Classical

theorem two_new (w : World) (a b : Int) : Two2 (w.alloc (.cells #[.int .i64 a, .int .i64 b] 23)) w.heap.size a b := ⟨World.cell?_alloc_new _ _ _ _, World.cell?_alloc_new _ _ _ _⟩
theorem Two2.lt {w : World} {k : Nat} {a b : Int} (h : Two2 w k a b) : k < w.heap.size := World.block_lt_of_cell? w _ h.1

set_option maxRecDepth 100000 in
set_option maxHeartbeats 4000000 in
theorem back_large (a b : Int) (s : ByteArray) (w : World) (hT : Table w) (hs : 60 < s.size) :
    Calls Tryd.prog 10 #[.agg #[.int .i64 a, .int .i64 b], .string s] w fun e w' => e = .returned (.bool true) ∧ Below w.heap.size w w' := by
  have hk : (60 : Int) < (s.size : Int) := by omega
  have T0 : Hid (Table (w.alloc (.cells #[.int .i64 a, .int .i64 b] 23))) := hT.below ((Below.refl w.heap.size w).alloc (Nat.le_refl _) _)
  have B0 : Hid (Below w.heap.size w (w.alloc (.cells #[.int .i64 a, .int .i64 b] 23))) := (Below.refl _ _).alloc (Nat.le_refl _) _
  clear hT hs
  go_enter Tryd.func10, Tryd.ntmps10
  go_wp2_with fail
  refine (awake_true _ T0.out).mono ?_
  rintro e w1 ⟨rfl, hb⟩
  have B1 := Lib.hid (B0.out.trans (hb.mono B0.out.size))
  clear hb
  go_wp2_with fail
  go_ret
  exact ⟨rfl, B1.out⟩

set_option maxRecDepth 100000 in
set_option maxHeartbeats 8000000 in
theorem back_small (a b : Int) (s : ByteArray) (w : World) (hT : Table w) (hs : s.size ≤ 60) :
    Calls Tryd.prog 10 #[.agg #[.int .i64 a, .int .i64 b], .string s] w fun e w' => e = .returned (.bool true) ∧ Below w.heap.size w w' := by
  have hk : (s.size : Int) ≤ 60 := by omega
  obtain ⟨F, L, E, hG, hP⟩ := Parse_all s (by omega)
  have T0 : Hid (Table (w.alloc (.cells #[.int .i64 a, .int .i64 b] 23))) := hT.below ((Below.refl w.heap.size w).alloc (Nat.le_refl _) _)
  have B0 : Hid (Below w.heap.size w (w.alloc (.cells #[.int .i64 a, .int .i64 b] 23))) := (Below.refl _ _).alloc (Nat.le_refl _) _
  have X0 := Lib.hid (two_new w a b)
  have PS := Lib.hid hP; have GG := Lib.hid hG
  clear hT hs hP hG
  go_enter Tryd.func10, Tryd.ntmps10
  go_wp2_with fail
  refine (awake_true _ T0.out).mono ?_
  rintro e w1 ⟨rfl, hb⟩
  have T1 := Lib.hid (T0.out.below hb); have B1 := Lib.hid (B0.out.trans (hb.mono B0.out.size)); have X1 := Lib.hid (X0.out.next hb)
  clear hb T0 B0 X0
  have a0 := X1.out.1; have a1 := X1.out.2; have zx := X1.out.lt
  by_cases hok : okD a b
  · have D1 := Lib.hid (fun w hT => Format_any a b w hT hok.1 hok.2.1 hok.2.2)
    have D2 := Lib.hid (Parse_fmt a b hok)
    obtain ⟨t, ht⟩ : ∃ t, t = fmtS a b := ⟨_, rfl⟩
    rw [← ht] at D1 D2
    clear ht hok
    go_wp2_with fail
    refine (D1.out _ T1.out).mono ?_
    rintro e w2 ⟨rfl, hb⟩
    have T2 := Lib.hid (T1.out.below hb); have B2 := Lib.hid (B1.out.trans (hb.mono B1.out.size)); have X2 := Lib.hid (X1.out.next hb)
    clear hb T1 B1 X1 a0 a1 zx
    go_wp2_with fail
    refine (D2.out _ T2.out).mono ?_
    rintro e w3 ⟨rfl, hb⟩
    have hc : Below w2.heap.size w2 (w3.alloc (.cells #[.int .i64 a, .int .i64 b] 23)) := hb.alloc hb.size _
    have Y3 := Lib.hid (two_new w3 a b)
    obtain ⟨V, hV⟩ : ∃ V : World, w3.alloc (.cells #[.int .i64 a, .int .i64 b] 23) = V := ⟨_, rfl⟩
    rw [hV] at hc Y3
    have T3 := Lib.hid (T2.out.below hc); have B3 := Lib.hid (B2.out.trans (hc.mono B2.out.size)); have X3 := Lib.hid (X2.out.next hc)
    have HV := Lib.hid hV
    clear hb hc T2 B2 X2
    have a0 := X3.out.1; have a1 := X3.out.2; have zx := X3.out.lt
    have b0 := Y3.out.1; have b1 := Y3.out.2; have zy := Y3.out.lt
    go_wp2_with fail
    try rw [hV]
    go_wp2_with fail
    clear a0 a1 zx b0 b1 zy hV HV Y3
    refine (PS.out _ T3.out).mono ?_
    rintro e w5 ⟨rfl, hb⟩
    have hc : Below V.heap.size V (w5.alloc (.cells #[.int .i64 F, .int .i64 L] 23)) := hb.alloc hb.size _
    have Y5 := Lib.hid (two_new w5 F L)
    obtain ⟨U, hU⟩ : ∃ U : World, w5.alloc (.cells #[.int .i64 F, .int .i64 L] 23) = U := ⟨_, rfl⟩
    rw [hU] at hc Y5
    have T5 := Lib.hid (T3.out.below hc); have B5 := Lib.hid (B3.out.trans (hc.mono B3.out.size))
    clear hb hc T3 B3
    have b0 := Y5.out.1; have b1 := Y5.out.2; have zy := Y5.out.lt
    rcases GG.out with ⟨hE, hok⟩ | ⟨hE, hF, hL⟩
    · subst hE
      have D5 := Lib.hid (fun w hT => Format_any F L w hT hok.1 hok.2.1 hok.2.2)
      have D6 := Lib.hid (Parse_fmt F L hok)
      have D7 := Lib.hid (Check_any F L)
      rw [chk_yes hok] at D7
      obtain ⟨t2, ht2⟩ : ∃ t, t = fmtS F L := ⟨_, rfl⟩
      rw [← ht2] at D5 D6
      clear ht2 hok
      go_wp2_with fail
      try rw [hU]
      go_wp2_with fail
      refine (D5.out _ T5.out).mono ?_
      rintro e w6 ⟨rfl, hb⟩
      have T6 := Lib.hid (T5.out.below hb); have B6 := Lib.hid (B5.out.trans (hb.mono B5.out.size)); have Y6 := Lib.hid (Y5.out.next hb)
      clear hb T5 B5 b0 b1 zy
      go_wp2_with fail
      refine (D6.out _ T6.out).mono ?_
      rintro e w7 ⟨rfl, hb⟩
      have hc : Below w6.heap.size w6 (w7.alloc (.cells #[.int .i64 F, .int .i64 L] 23)) := hb.alloc hb.size _
      have Z7 := Lib.hid (two_new w7 F L)
      obtain ⟨U7, hU7⟩ : ∃ U : World, w7.alloc (.cells #[.int .i64 F, .int .i64 L] 23) = U := ⟨_, rfl⟩
      rw [hU7] at hc Z7
      have B7 := Lib.hid (B6.out.trans (hc.mono B6.out.size)); have Y7 := Lib.hid (Y6.out.next hc)
      clear hb hc T6 B6 Y6
      have b0 := Y7.out.1; have b1 := Y7.out.2; have zy := Y7.out.lt
      go_wp2_with fail
      try rw [hU7]
      go_wp2_with fail
      refine (D7.out _).mono ?_
      rintro e w8 ⟨rfl, hb⟩
      have B8 := Lib.hid (B7.out.trans (hb.mono B7.out.size)); have Y8 := Lib.hid (Y7.out.next hb); have Z8 := Lib.hid (Z7.out.next hb)
      clear hb b0 b1 zy
      have b0 := Y8.out.1; have b1 := Y8.out.2; have zy := Y8.out.lt
      have c0 := Z8.out.1; have c1 := Z8.out.2; have zz := Z8.out.lt
      go_wp2_with fail
      go_ret
      exact ⟨rfl, B8.out⟩
    · subst hF
      subst hL
      subst hU
      clear b0 b1 zy
      rcases hE with hE | hE
      · subst hE
        go_wp2_with fail
        go_ret
        exact ⟨rfl, B5.out⟩
      · subst hE
        go_wp2_with fail
        go_ret
        exact ⟨rfl, B5.out⟩
  · have hok' : chk a b = 1 := chk_no hok
    have D1 := Lib.hid (fun w => Format_bad a b w hok)
    have D2 := Lib.hid (Check_any a b)
    rw [hok'] at D2
    clear hok hok'
    go_wp2_with fail
    refine (D1.out _).mono ?_
    rintro e w2 ⟨rfl, hb⟩
    have T2 := Lib.hid (T1.out.below hb); have B2 := Lib.hid (B1.out.trans (hb.mono B1.out.size)); have X2 := Lib.hid (X1.out.next hb)
    clear hb T1 B1 X1 a0 a1 zx
    have a0 := X2.out.1; have a1 := X2.out.2; have zx := X2.out.lt
    go_wp2_with fail
    refine (D2.out _).mono ?_
    rintro e w3 ⟨rfl, hb⟩
    have T3 := Lib.hid (T2.out.below hb); have B3 := Lib.hid (B2.out.trans (hb.mono B2.out.size))
    clear hb T2 B2 X2 a0 a1 zx
    go_wp2_with fail
    refine (PS.out _ T3.out).mono ?_
    rintro e w5 ⟨rfl, hb⟩
    have hc : Below w3.heap.size w3 (w5.alloc (.cells #[.int .i64 F, .int .i64 L] 23)) := hb.alloc hb.size _
    have Y5 := Lib.hid (two_new w5 F L)
    obtain ⟨U, hU⟩ : ∃ U : World, w5.alloc (.cells #[.int .i64 F, .int .i64 L] 23) = U := ⟨_, rfl⟩
    rw [hU] at hc Y5
    have T5 := Lib.hid (T3.out.below hc); have B5 := Lib.hid (B3.out.trans (hc.mono B3.out.size))
    clear hb hc T3 B3
    have b0 := Y5.out.1; have b1 := Y5.out.2; have zy := Y5.out.lt
    rcases GG.out with ⟨hE, hok⟩ | ⟨hE, hF, hL⟩
    · subst hE
      have D5 := Lib.hid (fun w hT => Format_any F L w hT hok.1 hok.2.1 hok.2.2)
      have D6 := Lib.hid (Parse_fmt F L hok)
      have D7 := Lib.hid (Check_any F L)
      rw [chk_yes hok] at D7
      obtain ⟨t2, ht2⟩ : ∃ t, t = fmtS F L := ⟨_, rfl⟩
      rw [← ht2] at D5 D6
      clear ht2 hok
      go_wp2_with fail
      try rw [hU]
      go_wp2_with fail
      refine (D5.out _ T5.out).mono ?_
      rintro e w6 ⟨rfl, hb⟩
      have T6 := Lib.hid (T5.out.below hb); have B6 := Lib.hid (B5.out.trans (hb.mono B5.out.size)); have Y6 := Lib.hid (Y5.out.next hb)
      clear hb T5 B5 b0 b1 zy
      go_wp2_with fail
      refine (D6.out _ T6.out).mono ?_
      rintro e w7 ⟨rfl, hb⟩
      have hc : Below w6.heap.size w6 (w7.alloc (.cells #[.int .i64 F, .int .i64 L] 23)) := hb.alloc hb.size _
      have Z7 := Lib.hid (two_new w7 F L)
      obtain ⟨U7, hU7⟩ : ∃ U : World, w7.alloc (.cells #[.int .i64 F, .int .i64 L] 23) = U := ⟨_, rfl⟩
      rw [hU7] at hc Z7
      have B7 := Lib.hid (B6.out.trans (hc.mono B6.out.size)); have Y7 := Lib.hid (Y6.out.next hc)
      clear hb hc T6 B6 Y6
      have b0 := Y7.out.1; have b1 := Y7.out.2; have zy := Y7.out.lt
      go_wp2_with fail
      try rw [hU7]
      go_wp2_with fail
      refine (D7.out _).mono ?_
      rintro e w8 ⟨rfl, hb⟩
      have B8 := Lib.hid (B7.out.trans (hb.mono B7.out.size)); have Y8 := Lib.hid (Y7.out.next hb); have Z8 := Lib.hid (Z7.out.next hb)
      clear hb b0 b1 zy
      have b0 := Y8.out.1; have b1 := Y8.out.2; have zy := Y8.out.lt
      have c0 := Z8.out.1; have c1 := Z8.out.2; have zz := Z8.out.lt
      go_wp2_with fail
      go_ret
      exact ⟨rfl, B8.out⟩
    · subst hF
      subst hL
      subst hU
      clear b0 b1 zy
      rcases hE with hE | hE
      · subst hE
        go_wp2_with fail
        go_ret
        exact ⟨rfl, B5.out⟩
      · subst hE
        go_wp2_with fail
        go_ret
        exact ⟨rfl, B5.out⟩

theorem back_law (a b : Int) (s : ByteArray) (w : World) (hT : Table w) :
    Calls Tryd.prog 10 #[.agg #[.int .i64 a, .int .i64 b], .string s] w fun e w' => e = .returned (.bool true) ∧ Below w.heap.size w w' := by
  by_cases h : 60 < s.size
  · exact back_large a b s w hT h
  · exact back_small a b s w hT (by omega)

set_option maxRecDepth 100000 in
theorem back_lifted (os : Os) (started : os.Started) (H : Type) (enc : TypeId × Value → H) :
    ReturnsInHanded {} Tryd.checked os 10 .any (fun w args => (Rows.datingBackSpec.pre enc Tryd.prog Tryd.f10 [] false w args ∧ laidMetH Tryd.prog laid1 w) ∧ sizedMet enc Tryd.prog Tryd.f10 (OpenSpec.ofChange Rows.datingBackSpec) false w args)
      (Rows.datingBackSpec.post enc Tryd.prog Tryd.f10 false true false false) := by
  refine returnsInHanded_of_change_and (C := Tryd.checked) (X := fun w _ => laidMetH Tryd.prog laid1 w) (fun _ _ _ hh h => h.of_heap hh) own started (by kernel_rfl) Tryd.func10
    (ChangeSpec.witness_shaped (enc := enc) (C := Tryd.checked) (os := os) (X := fun w _ => laidMetH Tryd.prog laid1 w) false (World.doorLaid Tryd.prog 400 os) #[.agg #[.int .i64 0, .int .i64 0], .string { data := #[] }] 8 rfl (World.shaped_of_RefB (by kernel_rfl) (by kernel_rfl)) (by kernel_rfl) (by kernel_rfl) (by kernel_rfl) (door_met os _)) ?_
  intro W base args ds gs before hval0 hW _ _ hL _
  have hval : ∀ (j : Nat) t v, Tryd.f10.params[j]? = some t → args[j]? = some v → Value.okWide Tryd.prog W .any base t v := hval0
  have hW' := hW
  obtain ⟨p, q, hA0, hV, rfl, hfz, hnd⟩ := hW
  have hA : DataW.TrodAll enc Tryd.prog W 0 (fun _ => true) true Tryd.f10.params.toList args.toList ds p := hA0
  rw [Tryd.params10] at hA hval
  obtain ⟨v0, v1, d0, d1, p0, p1, rfl, rfl, rfl, h0, h1⟩ := trodAll_two hA
  obtain ⟨rfl, rfl⟩ := trodVars_none hV
  obtain ⟨a0, b0, rfl⟩ := open_dat (hval 0 23 v0 rfl rfl) h0
  obtain ⟨s1, rfl, rfl, rfl, ws1⟩ := open_string Tryd.underlying9 (hval 1 9 v1 rfl rfl) h1
  refine (back_law a0 b0 s1 W (table_of_laid hL)).mono fun e W' ⟨he, hb⟩ => ?_
  subst he
  exact ⟨_, rfl, post_true rfl rfl (by kernel_rfl) hW' rfl hb⟩

theorem back_said : Rows.DatingBackSaid :=
  OpenClaim.holds_of_wide 10 Tryd.f10 rfl rfl rfl rfl rfl rfl rfl ⟨rfl, rfl, rfl, rfl, rfl⟩ rfl rfl rfl rfl rfl (by kernel_rfl) Tryd.func10 (by kernel_rfl)
    (of_decide_eq_true (by kernel_rfl)) (by unfold Func.isWrapper; first | (rw [if_pos (by decide +kernel)]; kernel_rfl) | (rw [if_neg (by decide +kernel)]; exact ⟨rfl, rfl⟩))
    (fun os started H enc _ => back_lifted os started H enc)

theorem back_holds : Rows.DatingBackCardSaid :=
  Claim7.holds_tied_plain_at .later [] [.data] true (true, "8d303af702edcfadd9ccb66646380e9714c2ac817b63d28ef925ba83bf977c3d") false
    back_said (fun _ h => by cases h) (by kernel_rfl) (fun _ h => by cases h) datingBack_row_tie rfl ⟨rfl, rfl⟩ (by kernel_rfl) rfl
    (fun f fn hf hfn => by
      obtain rfl : f = 10 := Option.some.inj ((show Tryd.prog.funcNamed "archivum/archivumlaw03.DatingBack" = some 10 by kernel_rfl).symm.trans hf) |>.symm
      obtain rfl : fn = Tryd.f10 := (Option.some.inj (Tryd.func10.symm.trans hfn)).symm
      exact ⟨by kernel_rfl, fun j t ht => by
        rw [Tryd.params10] at ht
        have hm : t ∈ [23, 9] := by simpa using Array.mem_of_getElem? ht
        have hall : ([23, 9].all fun u => !Tryd.prog.wantsStandIn u) = true := by kernel_rfl
        exact (show Tryd.prog.wantsStandIn t = false by simpa using List.all_eq_true.1 hall t hm)⟩)
    (by kernel_rfl)
#print axioms back_holds
end Go.Proofs.YtjpiaccpcmlfnaaDoor
