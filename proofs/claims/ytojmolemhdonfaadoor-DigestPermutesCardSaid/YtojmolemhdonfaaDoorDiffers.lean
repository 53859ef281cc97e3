/-
  PROVED HERE: the law archivumlaw01.DigestDiffers answers true for every two states: different states are permuted to different ones, and equal ones to equal ones. Condition: the package variables archivum/digest.roundConstants and archivum/digest.rotations hold what the program's text lays in them (the card ties that). Every pair of states is spoken of.
-/
import Derived.Test.YtojmolemhdonfaaDoorKit
import Derived.Test.YtojmolemhdonfaaDoorEql
import Derived.Test.YtojmolemhdonfaaDoorInj
import Derived.Deep.RegionHeld3
namespace Go.Proofs.YtojmolemhdonfaaDoor
open Go.ChangeShapes Go.WideShapes Go.ChangeAt Go.RowKit Kec

theorem perm_congr {f g : Nat → W} (h : ∀ i, i < 25 → f i = g i) : ∀ i, i < 25 → perm f i = perm g i := by
  have key : ∀ k, ∀ i, i < 25 → rounds k f i = rounds k g i := by
    intro k
    induction k with
    | zero => exact h
    | succ k ih => exact round_congr ih
  exact key 24
theorem vecEq_perm (f g : Nat → W) : vecEq (perm f) (perm g) = vecEq f g := by
  rw [Bool.eq_iff_iff, vecEq_iff, vecEq_iff]
  exact ⟨fun h => perm_inj h, fun h => perm_congr h⟩

/-- The two states lie in their blocks, and nothing old has turned. -/
def Two (w0 : World) (f g : Nat → W) (w : World) : Prop := Below w0.heap.size w0 w ∧ w0.heap.size + 2 ≤ w.heap.size ∧ Tabs w ∧ Blk w w0.heap.size 25 23 f ∧ Blk w (w0.heap.size + 1) 25 23 g
theorem Two.next {w0 : World} {f g : Nat → W} {w w' : World} (h : Two w0 f g w) (hb : Below w.heap.size w w') : Two w0 f g w' :=
  ⟨h.1.trans (hb.mono (by have := h.2.1; omega)), Nat.le_trans h.2.1 hb.size, h.2.2.1.next hb, h.2.2.2.1.below hb (by have := h.2.1; omega), h.2.2.2.2.below hb (by have := h.2.1; omega)⟩
theorem Two.drew {w0 : World} {f g : Nat → W} {w : World} (h : Two w0 f g w) : Two w0 f g w.drew := ⟨h.1.drew, h.2.1, h.2.2.1, h.2.2.2.1, h.2.2.2.2⟩
theorem vec_range {w : World} {b : Nat} {f : Nat → W} (h : Blk w b 25 23 f) : w.rangeAt b 0 (vec 25 f).toList := by
  have := World.rangeAt_of_block (w := w) h 0 25
  rwa [show (vec 25 f).extract 0 (0 + 25) = vec 25 f from by rw [Nat.zero_add]; exact Array.extract_eq_self_of_le (by rw [vec_size]; exact Nat.le_refl _)] at this
theorem Two.r0 {w0 : World} {f g : Nat → W} {w : World} (h : Two w0 f g w) : w.rangeAt w0.heap.size 0 (vec 25 f).toList := vec_range h.2.2.2.1
theorem Two.r1 {w0 : World} {f g : Nat → W} {w : World} (h : Two w0 f g w) : w.rangeAt (w0.heap.size + 1) 0 (vec 25 g).toList := vec_range h.2.2.2.2
theorem info_vec (f : Nat → W) : (Tryd.prog.info? 23).map (·.size) = some (vec 25 f).toList.length := by rw [Array.length_toList, vec_size]; exact info23

theorem yieldsIf_load_vec {ops : Array Oper} {S : World → Prop} {op : Oper} {a : Act} {b : Nat} {f : Nat → W} (hw : Region.wanted op (yielded ops a.tmps) = true) (x : Operand) (ho : op.op = .load 23 x)
    (hx : a.eval x = .pointer (some ⟨b, 0, none⟩)) (hS : ∀ w, S w → w.rangeAt b 0 (vec 25 f).toList) (hu : Tryd.prog.underlying 23 = some (.array 25 22))
    (hi : (Tryd.prog.info? 23).map (·.size) = some (vec 25 f).toList.length) : YieldsIf Tryd.prog ops S op (.agg (vec 25 f)) a := by
  have := yieldsIf_load_mid (P := Tryd.prog) hw 23 x ho b 0 hx (vec 25 f).toList _ hS hu rfl hi
  simpa using this

set_option maxRecDepth 100000 in
set_option maxHeartbeats 4000000 in
theorem differs_any (f g : Nat → W) (w : World) (hT : Tabs w) :
    Calls Tryd.prog 6 #[.agg (vec 25 f), .agg (vec 25 g)] w fun e w' => e = .returned (.bool true) ∧ Below w.heap.size w w' := by
  have S0 : Hid (Two w f g ((w.alloc (.cells (vec 25 f) 23)).alloc (.cells (vec 25 g) 23))) := by
    have hb : Below w.heap.size w ((w.alloc (.cells (vec 25 f) 23)).alloc (.cells (vec 25 g) 23)) := ((Below.refl _ _).alloc (Nat.le_refl _) _).alloc (by simp) _
    exact ⟨hb, by simp, hT.next hb, made2_0 w f _, made2_1 w _ _ _ _⟩
  have hA : ∀ w', Two w f g w' → Calls Tryd.prog 10 #[] w' fun e w'' => e = .returned (.bool true) ∧ Two w f g w'' := fun w' h =>
    (awake_true w' h.2.2.1).mono fun e w'' ⟨he, hb⟩ => ⟨he, h.next hb⟩
  have hP : ∀ x w', Two w f g w' → Calls Tryd.prog 11 #[.agg (vec 25 x)] w' fun e w'' => e = .returned (.agg (vec 25 (perm x))) ∧ Two w f g w'' := fun x w' h =>
    (perm_any x w' h.2.2.1.1 h.2.2.1.2).mono fun e w'' ⟨he, hb⟩ => ⟨he, h.next hb⟩
  have HU := Tryd.underlying23
  have hi0 := info_vec f
  have hi1 := info_vec g
  have hE0 := run_eql_vec f g
  have hE1 := run_eql_vec (perm f) (perm g)
  have hr0 : ∀ w', Two w f g w' → w'.rangeAt w.heap.size 0 (vec 25 f).toList := fun _ h => h.r0
  have hr1 : ∀ w', Two w f g w' → w'.rangeAt (w.heap.size + 1) 0 (vec 25 g).toList := fun _ h => h.r1
  have GA := Lib.hid hA; have GP := Lib.hid hP
  have HV := Lib.hid (vecEq_perm f g)
  clear hT hA hP
  go_enter Tryd.func6, Tryd.ntmps6
  go_wp2
  have HS0 := S0.out
  clear S0
  generalize (w.alloc (.cells (vec 25 f) 23)).alloc (.cells (vec 25 g) 23) = W0 at *
  have hs := HS0.drew
  clear HS0
  refine wp_region_held_drew (S := fun w' => Two w f g w') (by kernel_rfl) hs (fun _ => ?_)
  generalize W0.drew = W1 at *
  refine wpAnyH_ready (rs := [0]) (by kernel_rfl) (by simp) ?_
  refine AllReadyH.cons rfl (fun K hK => ?_) AllReadyH.nil
  go_simp
  go_at_call 10
  refine (GA.out _ hs).mono ?_
  clear hs
  rintro e w1 ⟨rfl, hs⟩
  refine hK.out _ _ hs (fun _ => ?_)
  clear hK K
  refine wpAnyH_take (i := 1) (v := .bool true) rfl (by kernel_rfl) (by kernel_rfl) (by kernel_rfl) (fun _ _ _ h => h) (Or.inl ⟨by rfl, fun w _ => by go_simp⟩) hs ?_
  simp only [Act.put, List.setIfInBounds_toArray]
  refine wpAnyH_take (i := 2) (v := .agg (vec 25 f)) rfl (by kernel_rfl) (by kernel_rfl) (by kernel_rfl) (fun _ _ _ h => h) (yieldsIf_load_vec (by rfl) _ rfl rfl hr0 HU hi0) hs ?_
  simp only [Act.put]
  refine wpAnyH_take (i := 4) (v := .agg (vec 25 g)) rfl (by kernel_rfl) (by kernel_rfl) (by kernel_rfl) (fun _ _ _ h => h) (yieldsIf_load_vec (by rfl) _ rfl rfl hr1 HU hi1) hs ?_
  simp only [Act.put]
  refine wpAnyH_take (i := 7) (v := .agg (vec 25 f)) rfl (by kernel_rfl) (by kernel_rfl) (by kernel_rfl) (fun _ _ _ h => h) (yieldsIf_load_vec (by rfl) _ rfl rfl hr0 HU hi0) hs ?_
  simp only [Act.put]
  refine wpAnyH_take (i := 8) (v := .agg (vec 25 g)) rfl (by kernel_rfl) (by kernel_rfl) (by kernel_rfl) (fun _ _ _ h => h) (yieldsIf_load_vec (by rfl) _ rfl rfl hr1 HU hi1) hs ?_
  simp only [Act.put]
  refine wpAnyH_take (i := 9) (v := .bool (vecEq f g)) rfl (by kernel_rfl) (by kernel_rfl) (by kernel_rfl) (fun _ _ _ h => h) (Or.inl ⟨by rfl, fun w _ => by go_simp⟩) hs ?_
  simp only [Act.put]
  refine wpAnyH_ready (rs := [3]) (by kernel_rfl) (by simp) ?_
  refine AllReadyH.cons rfl (fun K hK => ?_) AllReadyH.nil
  go_simp
  go_at_call 11
  refine (GP.out _ _ hs).mono ?_
  clear hs
  rintro e w1 ⟨rfl, hs⟩
  refine hK.out _ _ hs (fun _ => ?_)
  clear hK K
  refine wpAnyH_ready (rs := [5]) (by kernel_rfl) (by simp) ?_
  refine AllReadyH.cons rfl (fun K hK => ?_) AllReadyH.nil
  go_simp
  go_at_call 11
  refine (GP.out _ _ hs).mono ?_
  clear hs
  rintro e w1 ⟨rfl, hs⟩
  refine hK.out _ _ hs (fun _ => ?_)
  clear hK K
  refine wpAnyH_take (i := 6) (v := .bool (vecEq (perm f) (perm g))) rfl (by kernel_rfl) (by kernel_rfl) (by kernel_rfl) (fun _ _ _ h => h) (Or.inl ⟨by rfl, fun w _ => by go_simp⟩) hs ?_
  simp only [Act.put]
  refine wpAnyH_take (i := 10) (v := .bool (vecEq (perm f) (perm g) == vecEq f g)) rfl (by kernel_rfl) (by kernel_rfl) (by kernel_rfl) (fun _ _ _ h => h) (Or.inl ⟨by rfl, fun w _ => by go_simp⟩) hs ?_
  simp only [Act.put]
  rw [HV.out, show (vecEq f g == vecEq f g) = true from beq_self_eq_true _]
  refine wpAnyH_take (i := 11) (v := .bool true) rfl (by kernel_rfl) (by kernel_rfl) (by kernel_rfl) (fun _ _ _ h => h) (Or.inl ⟨by rfl, fun w _ => by go_simp⟩) hs ?_
  simp only [Act.put]
  refine wpAnyH_ready (rs := [12]) (by kernel_rfl) (by simp) ?_
  refine AllReadyH.cons rfl (fun K hK => ?_) AllReadyH.nil
  go_simp
  refine hK.out _ _ hs (fun _ => ?_)
  clear hK K
  refine wpAnyH_done (by kernel_rfl) ?_ _
  have hB := hs.1
  go_wp2
  exact bodyPost_ret (v := .bool true) (by simp [results, Tryd.results6, go_sem]) rfl ⟨rfl, hB⟩

/-- A state that came in, by value. -/
theorem open_vec {H : Type} {enc : TypeId × Value → H} {W : World} {base b0 : Nat} {r : Reach} {sp : Nat → Bool} {hd : Bool} {v : Value} {d : DataW H} {p : List MemPlace}
    (hv : Value.okWide Tryd.prog W r b0 23 v) (h : DataW.Trod enc Tryd.prog W base sp hd 23 v d p) : ∃ f : Nat → Kec.W, v = .agg (vec 25 f) := by
  obtain ⟨cs, rfl, hsz, _⟩ : ∃ cs, v = .agg cs ∧ cs.size = Tryd.prog.cellsOf 23 ∧ Row.okWide Tryd.prog W r b0 23 cs := by
    simpa [Value.okWide, Tryd.underlying23] using hv
  rw [cells23] at hsz
  obtain ⟨fuel, hf⟩ := h
  obtain ⟨xs, m, _, _, _, hl, he⟩ := DataW.trod_array Tryd.underlying23 hf
  have hex : ∀ i, i < 25 → ∃ x : Kec.W, cs[i]? = some (.int .u64 (wv x)) := by
    intro i hi
    have h1 := he i hi
    rw [List.getElem?_eq_getElem (by omega)] at h1
    obtain ⟨n, hn, _, hw⟩ := DataW.trod_int Tryd.underlying22 h1
    rw [cells22, Nat.mul_one] at hn
    have h2 : cs[i]? = some (.int .u64 n) := by
      have h3 := congrArg (fun l => l[0]?) hn
      simp only [Value.cells] at h3
      rw [List.getElem?_take_of_lt (by omega), List.getElem?_drop, Nat.add_zero, Array.getElem?_toList] at h3
      simpa using h3
    have hb : 0 ≤ n ∧ n < 18446744073709551616 := by
      simp [Lit.wf, IntKind.min, IntKind.max, IntKind.signed, IntKind.bits] at hw
      omega
    refine ⟨BitVec.ofNat 64 n.toNat, ?_⟩
    rw [h2]
    congr 2
    unfold wv
    rw [BitVec.toNat_ofNat]
    omega
  refine ⟨fun i => match cs[i]? with | some (.int .u64 n) => BitVec.ofNat 64 n.toNat | _ => 0, ?_⟩
  congr 1
  apply Array.ext_getElem?
  intro i
  by_cases hi : i < 25
  · rw [vec_get _ hi]
    obtain ⟨x, hx⟩ := hex i hi
    rw [hx]
    congr 2
    simp only
    unfold wv
    rw [BitVec.toNat_ofNat, Int.toNat_natCast, Nat.mod_eq_of_lt x.isLt]
  · rw [Array.getElem?_eq_none (by omega), Array.getElem?_eq_none (by rw [vec_size]; omega)]

set_option maxRecDepth 100000 in
theorem differs_lifted (os : Os) (started : os.Started) (H : Type) (enc : TypeId × Value → H) :
    ReturnsInHanded {} Tryd.checked os 6 .any (fun w args => (Rows.digestDiffersSpec.pre enc Tryd.prog Tryd.f6 [] false w args ∧ laidMetH Tryd.prog laid2 w) ∧ sizedMet enc Tryd.prog Tryd.f6 (OpenSpec.ofChange Rows.digestDiffersSpec) false w args)
      (Rows.digestDiffersSpec.post enc Tryd.prog Tryd.f6 false true false false) := by
  refine returnsInHanded_of_change_and (C := Tryd.checked) (X := fun w _ => laidMetH Tryd.prog laid2 w) (fun _ _ _ hh h => h.of_heap hh) own started (by kernel_rfl) Tryd.func6
    (ChangeSpec.witness_shaped (enc := enc) (C := Tryd.checked) (os := os) (X := fun w _ => laidMetH Tryd.prog laid2 w) false (World.doorLaid Tryd.prog 400 os) #[.agg #[.int .u64 0, .int .u64 0, .int .u64 0, .int .u64 0, .int .u64 0, .int .u64 0, .int .u64 0, .int .u64 0, .int .u64 0, .int .u64 0, .int .u64 0, .int .u64 0, .int .u64 0, .int .u64 0, .int .u64 0, .int .u64 0, .int .u64 0, .int .u64 0, .int .u64 0, .int .u64 0, .int .u64 0, .int .u64 0, .int .u64 0, .int .u64 0, .int .u64 0], .agg #[.int .u64 0, .int .u64 0, .int .u64 0, .int .u64 0, .int .u64 0, .int .u64 0, .int .u64 0, .int .u64 0, .int .u64 0, .int .u64 0, .int .u64 0, .int .u64 0, .int .u64 0, .int .u64 0, .int .u64 0, .int .u64 0, .int .u64 0, .int .u64 0, .int .u64 0, .int .u64 0, .int .u64 0, .int .u64 0, .int .u64 0, .int .u64 0, .int .u64 0]] 8 rfl (World.shaped_of_RefB (by kernel_rfl) (by kernel_rfl)) (by kernel_rfl) (by kernel_rfl) (by kernel_rfl) (door_met os _)) ?_
  intro W base args ds gs before hval0 hW _ _ hL _
  have hval : ∀ (j : Nat) t v, Tryd.f6.params[j]? = some t → args[j]? = some v → Value.okWide Tryd.prog W .any base t v := hval0
  have hW' := hW
  obtain ⟨p, q, hA0, hV, rfl, hfz, hnd⟩ := hW
  have hA : DataW.TrodAll enc Tryd.prog W 0 (fun _ => true) true Tryd.f6.params.toList args.toList ds p := hA0
  rw [Tryd.params6] at hA hval
  obtain ⟨v0, v1, d0, d1, p0, p1, rfl, rfl, rfl, h0, h1⟩ := trodAll_two hA
  obtain ⟨rfl, rfl⟩ := trodVars_none hV
  obtain ⟨f, rfl⟩ := open_vec (hval 0 23 v0 rfl rfl) h0
  obtain ⟨g, rfl⟩ := open_vec (hval 1 23 v1 rfl rfl) h1
  refine (differs_any f g W (tabs_of_laid hL)).mono fun e W' ⟨he, hb⟩ => ?_
  subst he
  exact ⟨_, rfl, post_true rfl rfl (by kernel_rfl) hW' rfl hb⟩

theorem differs_said : Rows.DigestDiffersSaid :=
  OpenClaim.holds_of_wide 6 Tryd.f6 rfl rfl rfl rfl rfl rfl rfl ⟨rfl, rfl, rfl, rfl, rfl⟩ rfl rfl rfl rfl rfl (by kernel_rfl) Tryd.func6 (by kernel_rfl)
    (of_decide_eq_true (by kernel_rfl)) (by unfold Func.isWrapper; first | (rw [if_pos (by decide +kernel)]; kernel_rfl) | (rw [if_neg (by decide +kernel)]; exact ⟨rfl, rfl⟩))
    (fun os started H enc _ => differs_lifted os started H enc)

theorem differs_holds : Rows.DigestDiffersCardSaid :=
  Claim7.holds_tied_plain_at .later [] [.data, .data] true (true, "280c02de953955338018498cf6fba117732bdeded41a15fbf9e28c4ac14ce8df") false
    differs_said (fun _ h => by cases h) (by kernel_rfl) (fun _ h => by cases h) digestDiffers_row_tie rfl ⟨rfl, rfl⟩ (by kernel_rfl) rfl
    (fun f fn hf hfn => by
      obtain rfl : f = 6 := Option.some.inj ((show Tryd.prog.funcNamed "archivum/archivumlaw01.DigestDiffers" = some 6 by kernel_rfl).symm.trans hf) |>.symm
      obtain rfl : fn = Tryd.f6 := (Option.some.inj (Tryd.func6.symm.trans hfn)).symm
      exact ⟨by kernel_rfl, fun j t ht => by
        rw [Tryd.params6] at ht
        have hm : t ∈ [23, 23] := by simpa using Array.mem_of_getElem? ht
        have hall : ([23, 23].all fun u => !Tryd.prog.wantsStandIn u) = true := by kernel_rfl
        exact (show Tryd.prog.wantsStandIn t = false by simpa using List.all_eq_true.1 hall t hm)⟩)
    (by kernel_rfl)
#print axioms differs_holds
end Go.Proofs.YtojmolemhdonfaaDoor
