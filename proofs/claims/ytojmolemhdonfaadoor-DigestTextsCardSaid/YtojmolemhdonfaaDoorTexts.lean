/-
  PROVED HERE: the law archivumlaw01.DigestTexts answers true for every two strings: Hex and Parse return the text of a digest and the digest with a text, or the specified errors, as the reference does. Condition: the package variables archivum/digest.roundConstants and archivum/digest.rotations hold what the program's text lays in them (the card ties that). Every two strings are spoken of (beyond 200 bytes the law itself asks nothing).
-/
import Derived.Test.YtojmolemhdonfaaDoorKit
import Derived.Test.YtojmolemhdonfaaDoorBack
import Derived.Test.YtojmolemhdonfaaDoorRPar
namespace Go.Proofs.YtojmolemhdonfaaDoor
open Go.ChangeShapes Go.WideShapes Go.ChangeAt Go.RowKit Kec
open Go.ChangeMaps (open_string)

set_option maxRecDepth 100000 in
set_option maxHeartbeats 2000000 in
theorem texts_long (a b : ByteArray) (w : World) (hT : Tabs w) (hs : 200 < (a.size : Int) ∨ ((a.size : Int) ≤ 200 ∧ 200 < (b.size : Int))) :
    Calls Tryd.prog 5 #[.string a, .string b] w fun e w' => e = .returned (.bool true) ∧ Below w.heap.size w w' := by
  have HT := Lib.hid hT
  clear hT
  rcases hs with hs | ⟨hs, ht⟩ <;>
  · go_enter Tryd.func5, Tryd.ntmps5
    go_wp2_with fail
    refine (awake_true w HT.out).mono ?_
    rintro e w1 ⟨rfl, hb⟩
    go_wp2
    go_ret
    exact ⟨rfl, hb⟩

set_option maxRecDepth 100000 in
set_option maxHeartbeats 2000000 in
theorem texts_short (a b x u : ByteArray) (e g : Int) (w : World) (hT : Tabs w) (ha : (a.size : Int) ≤ 200) (hb : (b.size : Int) ≤ 200)
    (C1 : ∀ w, Calls Tryd.prog 15 #[.string a] w fun r w' => r = .returned (.tuple #[.string x, .int .i64 e]) ∧ Below w.heap.size w w')
    (C2 : ∀ w, Calls Tryd.prog 16 #[.string a] w fun r w' => r = .returned (.tuple #[.string x, .int .i64 e]) ∧ Below w.heap.size w w')
    (C3 : ∀ w, Calls Tryd.prog 17 #[.string b] w fun r w' => r = .returned (.tuple #[.string u, .int .i64 g]) ∧ Below w.heap.size w w')
    (C4 : ∀ w, Calls Tryd.prog 18 #[.string b] w fun r w' => r = .returned (.tuple #[.string u, .int .i64 g]) ∧ Below w.heap.size w w') :
    Calls Tryd.prog 5 #[.string a, .string b] w fun e w' => e = .returned (.bool true) ∧ Below w.heap.size w w' := by
  have HT := Lib.hid hT
  have D1 := Lib.hid C1; have D2 := Lib.hid C2; have D3 := Lib.hid C3; have D4 := Lib.hid C4
  clear hT C1 C2 C3 C4
  go_enter Tryd.func5, Tryd.ntmps5
  go_wp2_with fail
  refine (awake_true w HT.out).mono ?_
  rintro r w1 ⟨rfl, hb1⟩
  have N1 := Lib.hid hb1
  clear hb1
  go_wp2_with fail
  refine (D1.out w1).mono ?_
  rintro r w2 ⟨rfl, hb2⟩
  have N2 := Lib.hid (N1.out.trans (hb2.mono N1.out.size))
  clear hb2
  go_wp2_with fail
  refine (D2.out w2).mono ?_
  rintro r w3 ⟨rfl, hb3⟩
  have N3 := Lib.hid (N2.out.trans (hb3.mono N2.out.size))
  clear hb3
  go_wp2_with fail
  refine (D3.out w3).mono ?_
  rintro r w4 ⟨rfl, hb4⟩
  have N4 := Lib.hid (N3.out.trans (hb4.mono N3.out.size))
  clear hb4
  go_wp2_with fail
  refine (D4.out w4).mono ?_
  rintro r w5 ⟨rfl, hb5⟩
  have N5 := Lib.hid (N4.out.trans (hb5.mono N4.out.size))
  clear hb5
  go_wp2
  go_ret
  exact ⟨rfl, N5.out⟩

theorem hex_both (a : ByteArray) : ∃ (x : ByteArray) (e : Int), (∀ w, Calls Tryd.prog 15 #[.string a] w fun r w' => r = .returned (.tuple #[.string x, .int .i64 e]) ∧ Below w.heap.size w w') ∧
    ∀ w, Calls Tryd.prog 16 #[.string a] w fun r w' => r = .returned (.tuple #[.string x, .int .i64 e]) ∧ Below w.heap.size w w' := by
  by_cases h : a.size = 32
  · exact ⟨_, _, fun w => hex_yes a w h, fun w => rhex_yes a w h⟩
  · exact ⟨_, _, fun w => (hex_no a w h).mono fun e w' ⟨he, hw⟩ => ⟨he, hw ▸ Below.refl _ _⟩, fun w => rhex_no a w h⟩
theorem parse_both (b : ByteArray) : ∃ (u : ByteArray) (g : Int), (∀ w, Calls Tryd.prog 17 #[.string b] w fun r w' => r = .returned (.tuple #[.string u, .int .i64 g]) ∧ Below w.heap.size w w') ∧
    ∀ w, Calls Tryd.prog 18 #[.string b] w fun r w' => r = .returned (.tuple #[.string u, .int .i64 g]) ∧ Below w.heap.size w w' := by
  by_cases h : b.size = 64
  · by_cases ho : okTo b 64
    · refine ⟨_, _, fun w => parse_good b w h ho, fun w => (rparse_any b w h).mono ?_⟩
      rintro e w' ⟨g | g, hb⟩
      · exact ⟨g.2, hb⟩
      · exact absurd ho g.1
    · refine ⟨_, _, fun w => parse_bad b w (fun hh => ho hh.2), fun w => (rparse_any b w h).mono ?_⟩
      rintro e w' ⟨g | g, hb⟩
      · exact absurd g.1 ho
      · exact ⟨g.2, hb⟩
  · exact ⟨_, _, fun w => parse_bad b w (fun hh => h hh.1), fun w => rparse_size b w h⟩
theorem texts_any (a b : ByteArray) (w : World) (hT : Tabs w) : Calls Tryd.prog 5 #[.string a, .string b] w fun e w' => e = .returned (.bool true) ∧ Below w.heap.size w w' := by
  by_cases ha : 200 < (a.size : Int)
  · exact texts_long a b w hT (Or.inl ha)
  by_cases hb : 200 < (b.size : Int)
  · exact texts_long a b w hT (Or.inr ⟨by omega, hb⟩)
  obtain ⟨x, e, c1, c2⟩ := hex_both a
  obtain ⟨u, g, c3, c4⟩ := parse_both b
  exact texts_short a b x u e g w hT (by omega) (by omega) c1 c2 c3 c4

set_option maxRecDepth 100000 in
theorem texts_lifted (os : Os) (started : os.Started) (H : Type) (enc : TypeId × Value → H) :
    ReturnsInHanded {} Tryd.checked os 5 .any (fun w args => (Rows.digestTextsSpec.pre enc Tryd.prog Tryd.f5 [] false w args ∧ laidMetH Tryd.prog laid2 w) ∧ sizedMet enc Tryd.prog Tryd.f5 (OpenSpec.ofChange Rows.digestTextsSpec) false w args)
      (Rows.digestTextsSpec.post enc Tryd.prog Tryd.f5 false true false false) := by
  refine returnsInHanded_of_change_and (C := Tryd.checked) (X := fun w _ => laidMetH Tryd.prog laid2 w) (fun _ _ _ hh h => h.of_heap hh) own started (by kernel_rfl) Tryd.func5
    (ChangeSpec.witness_shaped (enc := enc) (C := Tryd.checked) (os := os) (X := fun w _ => laidMetH Tryd.prog laid2 w) false (World.doorLaid Tryd.prog 400 os) #[.string ByteArray.empty, .string ByteArray.empty] 8 rfl (World.shaped_of_RefB (by kernel_rfl) (by kernel_rfl)) (by kernel_rfl) (by kernel_rfl) (by kernel_rfl) (door_met os _)) ?_
  intro W base args ds gs before hval0 hW _ _ hL _
  have hval : ∀ (j : Nat) t v, Tryd.f5.params[j]? = some t → args[j]? = some v → Value.okWide Tryd.prog W .any base t v := hval0
  have hW' := hW
  obtain ⟨p, q, hA0, hV, rfl, hfz, hnd⟩ := hW
  have hA : DataW.TrodAll enc Tryd.prog W 0 (fun _ => true) true Tryd.f5.params.toList args.toList ds p := hA0
  rw [Tryd.params5] at hA hval
  obtain ⟨v0, v1, d0, d1, p0, p1, rfl, rfl, rfl, h0, h1⟩ := trodAll_two hA
  obtain ⟨rfl, rfl⟩ := trodVars_none hV
  obtain ⟨a, rfl, rfl, rfl, wa⟩ := open_string Tryd.underlying9 (hval 0 9 v0 rfl rfl) h0
  obtain ⟨b, rfl, rfl, rfl, wb⟩ := open_string Tryd.underlying9 (hval 1 9 v1 rfl rfl) h1
  refine (texts_any a b W (tabs_of_laid hL)).mono fun e W' ⟨he, hb⟩ => ?_
  subst he
  exact ⟨_, rfl, post_true rfl rfl (by kernel_rfl) hW' rfl hb⟩

theorem texts_said : Rows.DigestTextsSaid :=
  OpenClaim.holds_of_wide 5 Tryd.f5 rfl rfl rfl rfl rfl rfl rfl ⟨rfl, rfl, rfl, rfl, rfl⟩ rfl rfl rfl rfl rfl (by kernel_rfl) Tryd.func5 (by kernel_rfl)
    (of_decide_eq_true (by kernel_rfl)) (by unfold Func.isWrapper; first | (rw [if_pos (by decide +kernel)]; kernel_rfl) | (rw [if_neg (by decide +kernel)]; exact ⟨rfl, rfl⟩))
    (fun os started H enc _ => texts_lifted os started H enc)

theorem texts_holds : Rows.DigestTextsCardSaid :=
  Claim7.holds_tied_plain_at .later [] [.data, .data] true (true, "280c02de953955338018498cf6fba117732bdeded41a15fbf9e28c4ac14ce8df") false
    texts_said (fun _ h => by cases h) (by kernel_rfl) (fun _ h => by cases h) digestTexts_row_tie rfl ⟨rfl, rfl⟩ (by kernel_rfl) rfl
    (fun f fn hf hfn => by
      obtain rfl : f = 5 := Option.some.inj ((show Tryd.prog.funcNamed "archivum/archivumlaw01.DigestTexts" = some 5 by kernel_rfl).symm.trans hf) |>.symm
      obtain rfl : fn = Tryd.f5 := (Option.some.inj (Tryd.func5.symm.trans hfn)).symm
      exact ⟨by kernel_rfl, fun j t ht => by
        rw [Tryd.params5] at ht
        have hm : t ∈ [9, 9] := by simpa using Array.mem_of_getElem? ht
        have hall : ([9, 9].all fun u => !Tryd.prog.wantsStandIn u) = true := by kernel_rfl
        exact (show Tryd.prog.wantsStandIn t = false by simpa using List.all_eq_true.1 hall t hm)⟩)
    (by kernel_rfl)
#print axioms texts_holds
end Go.Proofs.YtojmolemhdonfaaDoor
