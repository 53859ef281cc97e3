/-
  PROVED HERE: the law archivumlaw01.DigestBack answers true for every string: texts and digests belong to each other one to one, and everything else is refused. Condition: the package variables archivum/digest.roundConstants and archivum/digest.rotations hold what the program's text lays in them (the card ties that). Every string is spoken of (beyond 200 bytes the law itself asks nothing).
-/
import Derived.Test.YtojmolemhdonfaaDoorKit
import Derived.Test.YtojmolemhdonfaaDoorText
namespace Go.Proofs.YtojmolemhdonfaaDoor
open Go.ChangeShapes Go.WideShapes Go.ChangeAt Go.RowKit Kec
open Go.ChangeMaps (open_string)

/-- What Parse answers of a text that is none, or of the wrong length. -/
theorem parse_bad (s : ByteArray) (w : World) (h : ¬ (s.size = 64 ∧ okTo s 64)) :
    Calls Tryd.prog 17 #[.string s] w fun e w' => e = .returned (.tuple #[.string { data := #[] }, .int .i64 3]) ∧ Below w.heap.size w w' := by
  by_cases c : s.size = 64
  · refine (parse_any s w c).mono ?_
    rintro e w' ⟨g | g, hb⟩
    · exact absurd ⟨c, g.1⟩ h
    · exact ⟨g.2, hb⟩
  · exact parse_size s w c
theorem parse_good (s : ByteArray) (w : World) (h : s.size = 64) (ho : okTo s 64) :
    Calls Tryd.prog 17 #[.string s] w fun e w' => e = .returned (.tuple #[.string (parS s), .int .i64 0]) ∧ Below w.heap.size w w' := by
  refine (parse_any s w h).mono ?_
  rintro e w' ⟨g | g, hb⟩
  · exact ⟨g.2, hb⟩
  · exact absurd ho g.1

set_option maxRecDepth 100000 in
set_option maxHeartbeats 2000000 in
theorem back_long (s : ByteArray) (w : World) (hT : Tabs w) (hs : 200 < (s.size : Int)) :
    Calls Tryd.prog 9 #[.string s] w fun e w' => e = .returned (.bool true) ∧ Below w.heap.size w w' := by
  have HT := Lib.hid hT
  clear hT
  go_enter Tryd.func9, Tryd.ntmps9
  go_wp2_with fail
  refine (awake_true w HT.out).mono ?_
  rintro e w1 ⟨rfl, hb⟩
  go_wp2
  go_ret
  exact ⟨rfl, hb⟩

set_option maxRecDepth 100000 in
set_option maxHeartbeats 2000000 in
/-- A string that is a digest, and so is no text. -/
theorem back_digest (s t : ByteArray) (w : World) (hT : Tabs w) (hs : (s.size : Int) ≤ 200) (h32 : ((s.size : Int) != 32) = false) (ht : ((t.size : Int) != 64) = false)
    (C1 : ∀ w, Calls Tryd.prog 15 #[.string s] w fun e w' => e = .returned (.tuple #[.string t, .int .i64 0]) ∧ Below w.heap.size w w')
    (C2 : ∀ w, Calls Tryd.prog 17 #[.string t] w fun e w' => e = .returned (.tuple #[.string s, .int .i64 0]) ∧ Below w.heap.size w w')
    (C3 : ∀ w, Calls Tryd.prog 17 #[.string s] w fun e w' => e = .returned (.tuple #[.string { data := #[] }, .int .i64 3]) ∧ Below w.heap.size w w') :
    Calls Tryd.prog 9 #[.string s] w fun e w' => e = .returned (.bool true) ∧ Below w.heap.size w w' := by
  have HT := Lib.hid hT
  have D1 := Lib.hid C1; have D2 := Lib.hid C2; have D3 := Lib.hid C3
  clear hT C1 C2 C3
  go_enter Tryd.func9, Tryd.ntmps9
  go_wp2_with fail
  refine (awake_true w HT.out).mono ?_
  rintro e w1 ⟨rfl, hb1⟩
  have N1 := Lib.hid hb1
  clear hb1
  go_wp2_with fail
  refine (D1.out w1).mono ?_
  rintro e w2 ⟨rfl, hb2⟩
  have N2 := Lib.hid (N1.out.trans (hb2.mono N1.out.size))
  clear hb2
  go_wp2_with fail
  refine (D2.out w2).mono ?_
  rintro e w3 ⟨rfl, hb3⟩
  have N3 := Lib.hid (N2.out.trans (hb3.mono N2.out.size))
  clear hb3
  go_wp2_with fail
  refine (D3.out w3).mono ?_
  rintro e w4 ⟨rfl, hb4⟩
  have N4 := Lib.hid (N3.out.trans (hb4.mono N3.out.size))
  clear hb4
  go_wp2
  go_ret
  exact ⟨rfl, N4.out⟩

set_option maxRecDepth 100000 in
set_option maxHeartbeats 2000000 in
/-- A string that is neither. -/
theorem back_none (s : ByteArray) (w : World) (hT : Tabs w) (hs : (s.size : Int) ≤ 200) (h32 : ((s.size : Int) != 32) = true)
    (C1 : ∀ w, Calls Tryd.prog 15 #[.string s] w fun e w' => e = .returned (.tuple #[.string { data := #[] }, .int .i64 1]) ∧ w = w')
    (C3 : ∀ w, Calls Tryd.prog 17 #[.string s] w fun e w' => e = .returned (.tuple #[.string { data := #[] }, .int .i64 3]) ∧ Below w.heap.size w w') :
    Calls Tryd.prog 9 #[.string s] w fun e w' => e = .returned (.bool true) ∧ Below w.heap.size w w' := by
  have HT := Lib.hid hT
  have D1 := Lib.hid C1; have D3 := Lib.hid C3
  clear hT C1 C3
  go_enter Tryd.func9, Tryd.ntmps9
  go_wp2_with fail
  refine (awake_true w HT.out).mono ?_
  rintro e w1 ⟨rfl, hb1⟩
  have N1 := Lib.hid hb1
  clear hb1
  go_wp2_with fail
  refine (D1.out w1).mono ?_
  rintro e w' ⟨rfl, rfl⟩
  go_wp2_with fail
  refine (D3.out w1).mono ?_
  rintro e w4 ⟨rfl, hb4⟩
  have N4 := Lib.hid (N1.out.trans (hb4.mono N1.out.size))
  clear hb4
  go_wp2
  go_ret
  exact ⟨rfl, N4.out⟩

set_option maxRecDepth 100000 in
set_option maxHeartbeats 2000000 in
/-- A string that is a text. -/
theorem back_text (s d : ByteArray) (w : World) (hT : Tabs w) (hs : (s.size : Int) ≤ 200) (h32 : ((s.size : Int) != 32) = true) (hd : ((d.size : Int) == 32) = true)
    (C1 : ∀ w, Calls Tryd.prog 15 #[.string s] w fun e w' => e = .returned (.tuple #[.string { data := #[] }, .int .i64 1]) ∧ w = w')
    (C2 : ∀ w, Calls Tryd.prog 17 #[.string s] w fun e w' => e = .returned (.tuple #[.string d, .int .i64 0]) ∧ Below w.heap.size w w')
    (C3 : ∀ w, Calls Tryd.prog 15 #[.string d] w fun e w' => e = .returned (.tuple #[.string s, .int .i64 0]) ∧ Below w.heap.size w w') :
    Calls Tryd.prog 9 #[.string s] w fun e w' => e = .returned (.bool true) ∧ Below w.heap.size w w' := by
  have HT := Lib.hid hT
  have D1 := Lib.hid C1; have D2 := Lib.hid C2; have D3 := Lib.hid C3
  clear hT C1 C2 C3
  go_enter Tryd.func9, Tryd.ntmps9
  go_wp2_with fail
  refine (awake_true w HT.out).mono ?_
  rintro e w1 ⟨rfl, hb1⟩
  have N1 := Lib.hid hb1
  clear hb1
  go_wp2_with fail
  refine (D1.out w1).mono ?_
  rintro e w' ⟨rfl, rfl⟩
  go_wp2_with fail
  refine (D2.out w1).mono ?_
  rintro e w3 ⟨rfl, hb3⟩
  have N3 := Lib.hid (N1.out.trans (hb3.mono N1.out.size))
  clear hb3
  go_wp2_with fail
  refine (D3.out w3).mono ?_
  rintro e w4 ⟨rfl, hb4⟩
  have N4 := Lib.hid (N3.out.trans (hb4.mono N3.out.size))
  clear hb4
  go_wp2
  go_ret
  exact ⟨rfl, N4.out⟩

theorem back_any (s : ByteArray) (w : World) (hT : Tabs w) :
    Calls Tryd.prog 9 #[.string s] w fun e w' => e = .returned (.bool true) ∧ Below w.heap.size w w' := by
  by_cases hl : 200 < (s.size : Int)
  · exact back_long s w hT hl
  by_cases h32 : s.size = 32
  · refine back_digest s (hexS s) w hT (by omega) (by simp; omega) (by rw [hexS_size]; rfl) (fun w => hex_yes s w h32) (fun w => ?_) (fun w => parse_bad s w (fun h => by omega))
    have := parse_good (hexS s) w (hexS_size s) (hex_ok s)
    rw [par_hex h32] at this
    exact this
  · by_cases h64 : s.size = 64 ∧ okTo s 64
    · refine back_text s (parS s) w hT (by omega) (by simp; omega) (by rw [parS_size]; rfl) (fun w => hex_no s w h32) (fun w => parse_good s w h64.1 h64.2) (fun w => ?_)
      have := hex_yes (parS s) w (parS_size s)
      rw [hex_par h64.1 h64.2] at this
      exact this
    · exact back_none s w hT (by omega) (by simp; omega) (fun w => hex_no s w h32) (fun w => parse_bad s w h64)

set_option maxRecDepth 100000 in
theorem back_lifted (os : Os) (started : os.Started) (H : Type) (enc : TypeId × Value → H) :
    ReturnsInHanded {} Tryd.checked os 9 .any (fun w args => (Rows.digestBackSpec.pre enc Tryd.prog Tryd.f9 [] false w args ∧ laidMetH Tryd.prog laid2 w) ∧ sizedMet enc Tryd.prog Tryd.f9 (OpenSpec.ofChange Rows.digestBackSpec) false w args)
      (Rows.digestBackSpec.post enc Tryd.prog Tryd.f9 false true false false) := by
  refine returnsInHanded_of_change_and (C := Tryd.checked) (X := fun w _ => laidMetH Tryd.prog laid2 w) (fun _ _ _ hh h => h.of_heap hh) own started (by kernel_rfl) Tryd.func9
    (ChangeSpec.witness_shaped (enc := enc) (C := Tryd.checked) (os := os) (X := fun w _ => laidMetH Tryd.prog laid2 w) false (World.doorLaid Tryd.prog 400 os) #[.string { data := #[] }] 8 rfl (World.shaped_of_RefB (by kernel_rfl) (by kernel_rfl)) (by kernel_rfl) (by kernel_rfl) (by kernel_rfl) (door_met os _)) ?_
  intro W base args ds gs before hval0 hW _ _ hL _
  have hval : ∀ (j : Nat) t v, Tryd.f9.params[j]? = some t → args[j]? = some v → Value.okWide Tryd.prog W .any base t v := hval0
  have hW' := hW
  obtain ⟨p, q, hA0, hV, rfl, hfz, hnd⟩ := hW
  have hA : DataW.TrodAll enc Tryd.prog W 0 (fun _ => true) true Tryd.f9.params.toList args.toList ds p := hA0
  rw [Tryd.params9] at hA hval
  obtain ⟨v0, d0, rfl, rfl, h0⟩ := trodAll_one hA
  obtain ⟨rfl, rfl⟩ := trodVars_none hV
  obtain ⟨s, rfl, rfl, rfl, ws⟩ := open_string Tryd.underlying9 (hval 0 9 v0 rfl rfl) h0
  refine (back_any s W (tabs_of_laid hL)).mono fun e W' ⟨he, hb⟩ => ?_
  subst he
  exact ⟨_, rfl, post_true rfl rfl (by kernel_rfl) hW' rfl hb⟩

theorem back_said : Rows.DigestBackSaid :=
  OpenClaim.holds_of_wide 9 Tryd.f9 rfl rfl rfl rfl rfl rfl rfl ⟨rfl, rfl, rfl, rfl, rfl⟩ rfl rfl rfl rfl rfl (by kernel_rfl) Tryd.func9 (by kernel_rfl)
    (of_decide_eq_true (by kernel_rfl)) (by unfold Func.isWrapper; first | (rw [if_pos (by decide +kernel)]; kernel_rfl) | (rw [if_neg (by decide +kernel)]; exact ⟨rfl, rfl⟩))
    (fun os started H enc _ => back_lifted os started H enc)

theorem back_holds : Rows.DigestBackCardSaid :=
  Claim7.holds_tied_plain_at .later [] [.data, .data] true (true, "280c02de953955338018498cf6fba117732bdeded41a15fbf9e28c4ac14ce8df") false
    back_said (fun _ h => by cases h) (by kernel_rfl) (fun _ h => by cases h) digestBack_row_tie rfl ⟨rfl, rfl⟩ (by kernel_rfl) rfl
    (fun f fn hf hfn => by
      obtain rfl : f = 9 := Option.some.inj ((show Tryd.prog.funcNamed "archivum/archivumlaw01.DigestBack" = some 9 by kernel_rfl).symm.trans hf) |>.symm
      obtain rfl : fn = Tryd.f9 := (Option.some.inj (Tryd.func9.symm.trans hfn)).symm
      exact ⟨by kernel_rfl, fun j t ht => by
        rw [Tryd.params9] at ht
        have hm : t ∈ [9] := by simpa using Array.mem_of_getElem? ht
        have hall : ([9].all fun u => !Tryd.prog.wantsStandIn u) = true := by kernel_rfl
        exact (show Tryd.prog.wantsStandIn t = false by simpa using List.all_eq_true.1 hall t hm)⟩)
    (by kernel_rfl)
#print axioms back_holds
end Go.Proofs.YtojmolemhdonfaaDoor
