/-
  PROVED HERE: the law archivumlaw03.DatingRelates answers true for every two datings: Check, Before and Same answer as the reference implementation does, values and errors. Condition: the package variable archivum/day.lengths holds what the program's text lays in it (the card ties that). Every pair of datings is spoken of, the invalid ones too.
-/
import Derived.Test.YtjpiaccpcmlfnaaDoorLk
namespace Go.Proofs.YtjpiaccpcmlfnaaDoor
open Go.ChangeShapes Go.WideShapes Go.ChangeAt Go.RowKit Go.Joins Cal

theorem box_second (w : World) (a b c d : Int) : Box ((w.alloc (.cells #[.int .i64 a, .int .i64 b] 23)).alloc (.cells #[.int .i64 c, .int .i64 d] 23)) (w.heap.size + 1) c d := by
  have h := Box.new (w.alloc (.cells #[.int .i64 a, .int .i64 b] 23)) c d
  rw [World.size_alloc] at h
  exact h

set_option maxHeartbeats 8000000 in
theorem relates_any (a b c d : Int) (w : World) (hT : Table w) :
    Calls Tryd.prog 3 #[.agg #[.int .i64 a, .int .i64 b], .agg #[.int .i64 c, .int .i64 d]] w fun e w' => e = .returned (.bool true) ∧ Below w.heap.size w w' := by
  have HT := Lib.hid hT
  have hlt := hT.lt
  clear hT
  go_enter Tryd.func3, Tryd.ntmps3
  go_wp2_with fail
  refine (awake_true _ (HT.out.below (by go_grown))).mono ?_
  rintro e w1 ⟨rfl, hb⟩
  have B1 : Hid (Below w.heap.size w w1) := Below.trans (b := (w.alloc (.cells #[.int .i64 a, .int .i64 b] 23)).alloc (.cells #[.int .i64 c, .int .i64 d] 23)) (by go_grown) (hb.mono (by simp; omega))
  have X1 := Lib.hid (((Box.new w a b).alloc (.cells #[.int .i64 c, .int .i64 d] 23)).next hb)
  have Y1 := Lib.hid ((box_second w a b c d).next hb)
  clear hb
  have a0 := X1.out.c0; have a1 := X1.out.c1; have b0 := Y1.out.c0; have b1 := Y1.out.c1
  go_wp2_with fail
  refine (Before_any _ _ _ _ _).mono ?_
  rintro e w2 ⟨rfl, hb⟩
  have B2 := Lib.hid (B1.out.trans (hb.mono B1.out.size)); have X2 := Lib.hid (X1.out.next hb); have Y2 := Lib.hid (Y1.out.next hb)
  clear hb a0 a1 b0 b1
  have a0 := X2.out.c0; have a1 := X2.out.c1; have b0 := Y2.out.c0; have b1 := Y2.out.c1
  go_wp2_with fail
  refine (refBefore_any _ _ _ _ _).mono ?_
  rintro e w3 ⟨rfl, hb⟩
  have B3 := Lib.hid (B2.out.trans (hb.mono B2.out.size)); have X3 := Lib.hid (X2.out.next hb); have Y3 := Lib.hid (Y2.out.next hb)
  clear hb a0 a1 b0 b1
  have a0 := X3.out.c0; have a1 := X3.out.c1; have b0 := Y3.out.c0; have b1 := Y3.out.c1
  go_wp2_with fail
  refine (Same_any _ _ _ _ _).mono ?_
  rintro e w4 ⟨rfl, hb⟩
  have B4 := Lib.hid (B3.out.trans (hb.mono B3.out.size)); have X4 := Lib.hid (X3.out.next hb); have Y4 := Lib.hid (Y3.out.next hb)
  clear hb a0 a1 b0 b1
  have a0 := X4.out.c0; have a1 := X4.out.c1; have b0 := Y4.out.c0; have b1 := Y4.out.c1
  go_wp2_with fail
  refine (refSame_any _ _ _ _ _).mono ?_
  rintro e w5 ⟨rfl, hb⟩
  have B5 := Lib.hid (B4.out.trans (hb.mono B4.out.size)); have X5 := Lib.hid (X4.out.next hb); have Y5 := Lib.hid (Y4.out.next hb)
  clear hb a0 a1 b0 b1
  have a0 := X5.out.c0; have a1 := X5.out.c1
  have z5 := X5.out.lt
  go_wp2_with fail
  go_region_held3 (fun w' => w'.cell? ⟨w.heap.size, 0, none⟩ = some (.int .i64 a) ∧ w'.cell? ⟨w.heap.size, 1, none⟩ = some (.int .i64 b)) (first | exact ⟨keep3 a0 _ _ _, keep3 a1 _ _ _⟩ | go_keep) (first
    | (go_at_call 16; refine (Check_ex _ _ _).mono ?_; rintro e w' ⟨rfl, rfl⟩)
    | (go_at_call 17; refine (refCheck_ex _ _ _).mono ?_; rintro e w' ⟨rfl, rfl⟩))
  all_goals
    go_wp2
    go_ret
    exact ⟨rfl, by have := B5.out; go_grown⟩

set_option maxRecDepth 100000 in
theorem relates_lifted (os : Os) (started : os.Started) (H : Type) (enc : TypeId × Value → H) :
    ReturnsInHanded {} Tryd.checked os 3 .any (fun w args => (Rows.datingRelatesSpec.pre enc Tryd.prog Tryd.f3 [] false w args ∧ laidMetH Tryd.prog laid1 w) ∧ sizedMet enc Tryd.prog Tryd.f3 (OpenSpec.ofChange Rows.datingRelatesSpec) false w args)
      (Rows.datingRelatesSpec.post enc Tryd.prog Tryd.f3 false true false false) := by
  refine returnsInHanded_of_change_and (C := Tryd.checked) (X := fun w _ => laidMetH Tryd.prog laid1 w) (fun _ _ _ hh h => h.of_heap hh) own started (by kernel_rfl) Tryd.func3
    (ChangeSpec.witness_shaped (enc := enc) (C := Tryd.checked) (os := os) (X := fun w _ => laidMetH Tryd.prog laid1 w) false (World.doorLaid Tryd.prog 400 os) #[.agg #[.int .i64 0, .int .i64 0], .agg #[.int .i64 0, .int .i64 0]] 8 rfl (World.shaped_of_RefB (by kernel_rfl) (by kernel_rfl)) (by kernel_rfl) (by kernel_rfl) (by kernel_rfl) (door_met os _)) ?_
  intro W base args ds gs before hval0 hW _ _ hL _
  have hval : ∀ (j : Nat) t v, Tryd.f3.params[j]? = some t → args[j]? = some v → Value.okWide Tryd.prog W .any base t v := hval0
  have hW' := hW
  obtain ⟨p, q, hA0, hV, rfl, hfz, hnd⟩ := hW
  have hA : DataW.TrodAll enc Tryd.prog W 0 (fun _ => true) true Tryd.f3.params.toList args.toList ds p := hA0
  rw [Tryd.params3] at hA hval
  obtain ⟨v0, v1, d0, d1, p0, p1, rfl, rfl, rfl, h0, h1⟩ := trodAll_two hA
  obtain ⟨rfl, rfl⟩ := trodVars_none hV
  obtain ⟨a0, b0, rfl⟩ := open_dat (hval 0 23 v0 rfl rfl) h0
  obtain ⟨a1, b1, rfl⟩ := open_dat (hval 1 23 v1 rfl rfl) h1
  refine (relates_any a0 b0 a1 b1 W (table_of_laid hL)).mono fun e W' ⟨he, hb⟩ => ?_
  subst he
  exact ⟨_, rfl, post_true rfl rfl (by kernel_rfl) hW' rfl hb⟩

theorem relates_said : Rows.DatingRelatesSaid :=
  OpenClaim.holds_of_wide 3 Tryd.f3 rfl rfl rfl rfl rfl rfl rfl ⟨rfl, rfl, rfl, rfl, rfl⟩ rfl rfl rfl rfl rfl (by kernel_rfl) Tryd.func3 (by kernel_rfl)
    (of_decide_eq_true (by kernel_rfl)) (by unfold Func.isWrapper; first | (rw [if_pos (by decide +kernel)]; kernel_rfl) | (rw [if_neg (by decide +kernel)]; exact ⟨rfl, rfl⟩))
    (fun os started H enc _ => relates_lifted os started H enc)

theorem relates_holds : Rows.DatingRelatesCardSaid :=
  Claim7.holds_tied_plain_at .later [] [.data] true (true, "8d303af702edcfadd9ccb66646380e9714c2ac817b63d28ef925ba83bf977c3d") false
    relates_said (fun _ h => by cases h) (by kernel_rfl) (fun _ h => by cases h) datingRelates_row_tie rfl ⟨rfl, rfl⟩ (by kernel_rfl) rfl
    (fun f fn hf hfn => by
      obtain rfl : f = 3 := Option.some.inj ((show Tryd.prog.funcNamed "archivum/archivumlaw03.DatingRelates" = some 3 by kernel_rfl).symm.trans hf) |>.symm
      obtain rfl : fn = Tryd.f3 := (Option.some.inj (Tryd.func3.symm.trans hfn)).symm
      exact ⟨by kernel_rfl, fun j t ht => by
        rw [Tryd.params3] at ht
        have hm : t ∈ [23, 23] := by simpa using Array.mem_of_getElem? ht
        have hall : ([23, 23].all fun u => !Tryd.prog.wantsStandIn u) = true := by kernel_rfl
        exact (show Tryd.prog.wantsStandIn t = false by simpa using List.all_eq_true.1 hall t hm)⟩)
    (by kernel_rfl)
#print axioms relates_holds
end Go.Proofs.YtjpiaccpcmlfnaaDoor
