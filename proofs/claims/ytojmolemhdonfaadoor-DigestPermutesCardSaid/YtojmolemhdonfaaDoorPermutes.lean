/-
  PROVED HERE: the law archivumlaw01.DigestPermutes answers true for every state: Permute returns what the reference's Permute returns. Condition: the package variables archivum/digest.roundConstants and archivum/digest.rotations hold what the program's text lays in them (the card ties that). Every state is spoken of.
-/
import Derived.Test.YtojmolemhdonfaaDoorDiffers
import Derived.Test.YtojmolemhdonfaaDoorRPerm
namespace Go.Proofs.YtojmolemhdonfaaDoor
open Go.ChangeShapes Go.WideShapes Go.ChangeAt Go.RowKit Kec

/-- The state lies in its block, and nothing old has turned. -/
def One (w0 : World) (f : Nat → W) (w : World) : Prop := Below w0.heap.size w0 w ∧ w0.heap.size + 1 ≤ w.heap.size ∧ Tabs w ∧ Blk w w0.heap.size 25 23 f
theorem One.next {w0 : World} {f : Nat → W} {w w' : World} (h : One w0 f w) (hb : Below w.heap.size w w') : One w0 f w' :=
  ⟨h.1.trans (hb.mono (by have := h.2.1; omega)), Nat.le_trans h.2.1 hb.size, h.2.2.1.next hb, h.2.2.2.below hb (by have := h.2.1; omega)⟩
theorem One.drew {w0 : World} {f : Nat → W} {w : World} (h : One w0 f w) : One w0 f w.drew := ⟨h.1.drew, h.2.1, h.2.2.1, h.2.2.2⟩
theorem vecEq_self (f : Nat → W) : vecEq f f = true := (vecEq_iff f f).2 fun _ _ => rfl

set_option maxRecDepth 100000 in
set_option maxHeartbeats 4000000 in
theorem permutes_any (f : Nat → W) (w : World) (hT : Tabs w) :
    Calls Tryd.prog 3 #[.agg (vec 25 f)] w fun e w' => e = .returned (.bool true) ∧ Below w.heap.size w w' := by
  have S0 : Hid (One w f (w.alloc (.cells (vec 25 f) 23))) := by
    have hb : Below w.heap.size w (w.alloc (.cells (vec 25 f) 23)) := (Below.refl _ _).alloc (Nat.le_refl _) _
    exact ⟨hb, by simp, hT.next hb, Blk.made _ _ _ _⟩
  have hA : ∀ w', One w f w' → Calls Tryd.prog 10 #[] w' fun e w'' => e = .returned (.bool true) ∧ One w f w'' := fun w' h =>
    (awake_true w' h.2.2.1).mono fun e w'' ⟨he, hb⟩ => ⟨he, h.next hb⟩
  have hP : ∀ w', One w f w' → Calls Tryd.prog 11 #[.agg (vec 25 f)] w' fun e w'' => e = .returned (.agg (vec 25 (perm f))) ∧ One w f w'' := fun w' h =>
    (perm_any f w' h.2.2.1.1 h.2.2.1.2).mono fun e w'' ⟨he, hb⟩ => ⟨he, h.next hb⟩
  have hQ : ∀ w', One w f w' → Calls Tryd.prog 12 #[.agg (vec 25 f)] w' fun e w'' => e = .returned (.agg (vec 25 (perm f))) ∧ One w f w'' := fun w' h =>
    (rperm_any f w').mono fun e w'' ⟨he, hb⟩ => ⟨he, h.next hb⟩
  have HU := Tryd.underlying23
  have hi0 := info_vec f
  have hE0 := run_eql_vec (perm f) (perm f)
  have hr0 : ∀ w', One w f w' → w'.rangeAt w.heap.size 0 (vec 25 f).toList := fun _ h => vec_range h.2.2.2
  have GA := Lib.hid hA; have GP := Lib.hid hP; have GQ := Lib.hid hQ
  clear hT hA hP hQ
  go_enter Tryd.func3, Tryd.ntmps3
  go_wp2
  have HS0 := S0.out
  clear S0
  generalize w.alloc (.cells (vec 25 f) 23) = W0 at *
  have hs := HS0.drew
  clear HS0
  refine wp_region_held_drew (S := fun w' => One w f w') (by kernel_rfl) hs (fun _ => ?_)
  generalize W0.drew = W1 at *
  refine wpAnyH_ready (rs := [0]) (by kernel_rfl) (by simp) ?_
  refine AllReadyH.cons rfl (fun K hK => ?_) AllReadyH.nil
  go_simp
  go_at_call 10
  refine (GA.out _ hs).mono ?_
  clear hs
  rintro e w1 ⟨rfl, hs⟩
  refine hK.out _ _ hs (fun _ => ?_)
  clear hK K
  refine wpAnyH_take (i := 1) (v := .bool true) rfl (by kernel_rfl) (by kernel_rfl) (by kernel_rfl) (fun _ _ _ h => h) (Or.inl ⟨by rfl, fun w _ => by go_simp⟩) hs ?_
  simp only [Act.put, List.setIfInBounds_toArray]
  refine wpAnyH_take (i := 2) (v := .agg (vec 25 f)) rfl (by kernel_rfl) (by kernel_rfl) (by kernel_rfl) (fun _ _ _ h => h) (yieldsIf_load_vec (by rfl) _ rfl rfl hr0 HU hi0) hs ?_
  simp only [Act.put]
  refine wpAnyH_take (i := 4) (v := .agg (vec 25 f)) rfl (by kernel_rfl) (by kernel_rfl) (by kernel_rfl) (fun _ _ _ h => h) (yieldsIf_load_vec (by rfl) _ rfl rfl hr0 HU hi0) hs ?_
  simp only [Act.put]
  refine wpAnyH_ready (rs := [3]) (by kernel_rfl) (by simp) ?_
  refine AllReadyH.cons rfl (fun K hK => ?_) AllReadyH.nil
  go_simp
  go_at_call 11
  refine (GP.out _ hs).mono ?_
  clear hs
  rintro e w1 ⟨rfl, hs⟩
  refine hK.out _ _ hs (fun _ => ?_)
  clear hK K
  refine wpAnyH_ready (rs := [5]) (by kernel_rfl) (by simp) ?_
  refine AllReadyH.cons rfl (fun K hK => ?_) AllReadyH.nil
  go_simp
  go_at_call 12
  refine (GQ.out _ hs).mono ?_
  clear hs
  rintro e w1 ⟨rfl, hs⟩
  refine hK.out _ _ hs (fun _ => ?_)
  clear hK K
  refine wpAnyH_take (i := 6) (v := .bool (vecEq (perm f) (perm f))) rfl (by kernel_rfl) (by kernel_rfl) (by kernel_rfl) (fun _ _ _ h => h) (Or.inl ⟨by rfl, fun w _ => by go_simp⟩) hs ?_
  simp only [Act.put]
  rw [vecEq_self]
  refine wpAnyH_take (i := 7) (v := .bool true) rfl (by kernel_rfl) (by kernel_rfl) (by kernel_rfl) (fun _ _ _ h => h) (Or.inl ⟨by rfl, fun w _ => by go_simp⟩) hs ?_
  simp only [Act.put]
  refine wpAnyH_ready (rs := [8]) (by kernel_rfl) (by simp) ?_
  refine AllReadyH.cons rfl (fun K hK => ?_) AllReadyH.nil
  go_simp
  refine hK.out _ _ hs (fun _ => ?_)
  clear hK K
  refine wpAnyH_done (by kernel_rfl) ?_ _
  have hB := hs.1
  go_wp2
  exact bodyPost_ret (v := .bool true) (by simp [results, Tryd.results3, go_sem]) rfl ⟨rfl, hB⟩

set_option maxRecDepth 100000 in
theorem permutes_lifted (os : Os) (started : os.Started) (H : Type) (enc : TypeId × Value → H) :
    ReturnsInHanded {} Tryd.checked os 3 .any (fun w args => (Rows.digestPermutesSpec.pre enc Tryd.prog Tryd.f3 [] false w args ∧ laidMetH Tryd.prog laid2 w) ∧ sizedMet enc Tryd.prog Tryd.f3 (OpenSpec.ofChange Rows.digestPermutesSpec) false w args)
      (Rows.digestPermutesSpec.post enc Tryd.prog Tryd.f3 false true false false) := by
  refine returnsInHanded_of_change_and (C := Tryd.checked) (X := fun w _ => laidMetH Tryd.prog laid2 w) (fun _ _ _ hh h => h.of_heap hh) own started (by kernel_rfl) Tryd.func3
    (ChangeSpec.witness_shaped (enc := enc) (C := Tryd.checked) (os := os) (X := fun w _ => laidMetH Tryd.prog laid2 w) false (World.doorLaid Tryd.prog 400 os) #[.agg #[.int .u64 0, .int .u64 0, .int .u64 0, .int .u64 0, .int .u64 0, .int .u64 0, .int .u64 0, .int .u64 0, .int .u64 0, .int .u64 0, .int .u64 0, .int .u64 0, .int .u64 0, .int .u64 0, .int .u64 0, .int .u64 0, .int .u64 0, .int .u64 0, .int .u64 0, .int .u64 0, .int .u64 0, .int .u64 0, .int .u64 0, .int .u64 0, .int .u64 0]] 8 rfl (World.shaped_of_RefB (by kernel_rfl) (by kernel_rfl)) (by kernel_rfl) (by kernel_rfl) (by kernel_rfl) (door_met os _)) ?_
  intro W base args ds gs before hval0 hW _ _ hL _
  have hval : ∀ (j : Nat) t v, Tryd.f3.params[j]? = some t → args[j]? = some v → Value.okWide Tryd.prog W .any base t v := hval0
  have hW' := hW
  obtain ⟨p, q, hA0, hV, rfl, hfz, hnd⟩ := hW
  have hA : DataW.TrodAll enc Tryd.prog W 0 (fun _ => true) true Tryd.f3.params.toList args.toList ds p := hA0
  rw [Tryd.params3] at hA hval
  obtain ⟨v0, d0, rfl, rfl, h0⟩ := trodAll_one hA
  obtain ⟨rfl, rfl⟩ := trodVars_none hV
  obtain ⟨f, rfl⟩ := open_vec (hval 0 23 v0 rfl rfl) h0
  refine (permutes_any f W (tabs_of_laid hL)).mono fun e W' ⟨he, hb⟩ => ?_
  subst he
  exact ⟨_, rfl, post_true rfl rfl (by kernel_rfl) hW' rfl hb⟩

theorem permutes_said : Rows.DigestPermutesSaid :=
  OpenClaim.holds_of_wide 3 Tryd.f3 rfl rfl rfl rfl rfl rfl rfl ⟨rfl, rfl, rfl, rfl, rfl⟩ rfl rfl rfl rfl rfl (by kernel_rfl) Tryd.func3 (by kernel_rfl)
    (of_decide_eq_true (by kernel_rfl)) (by unfold Func.isWrapper; first | (rw [if_pos (by decide +kernel)]; kernel_rfl) | (rw [if_neg (by decide +kernel)]; exact ⟨rfl, rfl⟩))
    (fun os started H enc _ => permutes_lifted os started H enc)

theorem permutes_holds : Rows.DigestPermutesCardSaid :=
  Claim7.holds_tied_plain_at .later [] [.data, .data] true (true, "280c02de953955338018498cf6fba117732bdeded41a15fbf9e28c4ac14ce8df") false
    permutes_said (fun _ h => by cases h) (by kernel_rfl) (fun _ h => by cases h) digestPermutes_row_tie rfl ⟨rfl, rfl⟩ (by kernel_rfl) rfl
    (fun f fn hf hfn => by
      obtain rfl : f = 3 := Option.some.inj ((show Tryd.prog.funcNamed "archivum/archivumlaw01.DigestPermutes" = some 3 by kernel_rfl).symm.trans hf) |>.symm
      obtain rfl : fn = Tryd.f3 := (Option.some.inj (Tryd.func3.symm.trans hfn)).symm
      exact ⟨by kernel_rfl, fun j t ht => by
        rw [Tryd.params3] at ht
        have hm : t ∈ [23] := by simpa using Array.mem_of_getElem? ht
        have hall : ([23].all fun u => !Tryd.prog.wantsStandIn u) = true := by kernel_rfl
        exact (show Tryd.prog.wantsStandIn t = false by simpa using List.all_eq_true.1 hall t hm)⟩)
    (by kernel_rfl)
#print axioms permutes_holds
end Go.Proofs.YtojmolemhdonfaaDoor
