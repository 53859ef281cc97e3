/-
  PROVED HERE: the law archivumlaw01.DigestClones answers true for every three strings: a copy and its original take in different strings independently. Condition: the package variables archivum/digest.roundConstants and archivum/digest.rotations hold what the program's text lays in them (the card ties that). Every string is spoken of (beyond 300 bytes the law itself asks nothing).
-/
import Derived.Test.YtojmolemhdonfaaDoorKit
import Derived.LaidEqlPtr
namespace Go.Proofs.YtojmolemhdonfaaDoor
open Go.ChangeShapes Go.WideShapes Go.ChangeAt Go.RowKit Kec
open Go.ChangeMaps (open_string)

theorem ret_bool {a b : Bool} (h : a = b) : Ending.returned (.bool a) = .returned (.bool b) := by rw [h]
/-- The digest of some bytes. -/
def digL (l : List UInt8) : ByteArray := digS (absorb init l)
theorem absorb_pair (s : (Nat → W) × Nat) (l : List UInt8) : absorb s l = ((absorb s l).1, (absorb s l).2) := rfl
theorem data_append (a b : ByteArray) : (a ++ b).data.toList = a.data.toList ++ b.data.toList := by simp

theorem hsum_list (b : Nat) (l : List UInt8) (w : World) (hB : HBlk w b (absorb init l).1 ((absorb init l).2 : Nat)) (hT : Tabs w) (ht : (((absorb init l).2 : Nat) : Int) ≤ 4611686018427387904) :
    Calls Tryd.prog 20 #[.pointer (some ⟨b, 0, none⟩)] w fun e w' => e = .returned (.string (digL l)) ∧ Below w.heap.size w w' := hsum_any b _ _ w hB hT ht
/-- One string written: the walk has laid it into a block of its own. -/
theorem write_one (b : Nat) (l : List UInt8) (s : ByteArray) (w : World) (hB : HBlk w b (absorb init l).1 ((absorb init l).2 : Nat)) (hT : Tabs w) (hb1 : 1 < b) (hl : (l.length : Int) ≤ 1000000) (hs : (s.size : Int) ≤ 1000000) :
    Calls Tryd.prog 21 #[.pointer (some ⟨b, 0, none⟩), .slice (some ⟨w.heap.size, 0, none⟩) 1 1] (w.alloc (.cells #[.string s] 9)) fun e w' =>
      e = .returned (.int .i64 ((l.length : Int) + (s.size : Int))) ∧ HBlk w' b (absorb init (l ++ s.data.toList)).1 ((absorb init (l ++ s.data.toList)).2 : Nat) ∧ Mod b w w' := by
  have NA : Below w.heap.size w (w.alloc (.cells #[.string s] 9)) := (Below.refl _ _).alloc (Nat.le_refl _) _
  have hcell : ∀ i (h : i < [s].length), (w.alloc (.cells #[.string s] 9)).cell? ⟨w.heap.size, 0 + i, none⟩ = some (.string [s][i]) := by
    intro i h
    obtain rfl : i = 0 := by simp at h; omega
    rw [World.cell?_alloc_mark]; rfl
  have hj : join [s] = s.data.toList := by simp [join]
  have hn : (absorb init l).2 = l.length := by rw [absorb_count]; simp [init]
  have hlen : s.data.toList.length = s.size := by simp
  have hlt := hB.lt
  refine (write_any b (absorb init l).1 (absorb init l).2 _ w.heap.size 0 1 [s] _ (hB.alloc _) (hT.next NA) hb1 rfl hcell (by omega) (by simp) (by rw [hj, hn]; omega)).mono ?_
  rintro e w' ⟨he, hB', hm⟩
  rw [hj, ← absorb_pair, ← absorb_append] at he hB'
  refine ⟨?_, hB', (Mod.of_below NA).trans hm⟩
  rw [he, absorb_count, List.length_append]
  simp only [init, hlen]
  congr 2
  omega

set_option maxRecDepth 100000 in
set_option maxHeartbeats 2000000 in
theorem clones_long (f a b : ByteArray) (w : World) (hT : Tabs w) (h : 300 < (f.size : Int) ∨ 300 < (a.size : Int) ∨ 300 < (b.size : Int)) :
    Calls Tryd.prog 8 #[.string f, .string a, .string b] w fun e w' => e = .returned (.bool true) ∧ Below w.heap.size w w' := by
  have HT := Lib.hid hT
  clear hT
  by_cases h1 : 300 < (f.size : Int)
  · clear h
    go_enter Tryd.func8, Tryd.ntmps8
    go_wp2_with fail
    refine (awake_true w HT.out).mono ?_
    rintro e w1 ⟨rfl, hb⟩
    go_wp2
    go_ret
    exact ⟨rfl, hb⟩
  have h1' : (f.size : Int) ≤ 300 := by omega
  clear h1
  by_cases h2 : 300 < (a.size : Int)
  · clear h
    go_enter Tryd.func8, Tryd.ntmps8
    go_wp2_with fail
    refine (awake_true w HT.out).mono ?_
    rintro e w1 ⟨rfl, hb⟩
    go_wp2
    go_ret
    exact ⟨rfl, hb⟩
  have h2' : (a.size : Int) ≤ 300 := by omega
  have h3 : 300 < (b.size : Int) := by omega
  clear h h2
  go_enter Tryd.func8, Tryd.ntmps8
  go_wp2_with fail
  refine (awake_true w HT.out).mono ?_
  rintro e w1 ⟨rfl, hb⟩
  go_wp2
  go_ret
  exact ⟨rfl, hb⟩

set_option maxRecDepth 100000 in
set_option maxHeartbeats 4000000 in
theorem clones_in (f a b : ByteArray) (w : World) (hT : Tabs w) (h1 : (f.size : Int) ≤ 300) (h2 : (a.size : Int) ≤ 300) (h3 : (b.size : Int) ≤ 300) :
    Calls Tryd.prog 8 #[.string f, .string a, .string b] w fun e w' => e = .returned (.bool true) ∧ Below w.heap.size w w' := by
  have HT := Lib.hid hT
  obtain ⟨j, hj1, hj2⟩ : ∃ j, Tryd.prog.info? 54 = some j ∧ j.size ≠ 0 := by
    have h := info54
    cases e : Tryd.prog.info? 54 with
    | none => rw [e] at h; cases h
    | some j => rw [e] at h; simp at h; exact ⟨j, rfl, by omega⟩
  have lf : f.data.toList.length = f.size := by simp
  have la : a.data.toList.length = a.size := by simp
  have lb : b.data.toList.length = b.size := by simp
  have SF : ∀ w, Tabs w → Calls Tryd.prog 13 #[.string f] w fun e w' => e = .returned (.string (digL f.data.toList)) ∧ Below w.heap.size w w' := fun w h => sum_any f w h (by omega)
  have SA : ∀ w, Tabs w → Calls Tryd.prog 13 #[.string (f ++ a)] w fun e w' => e = .returned (.string (digL (f.data.toList ++ a.data.toList))) ∧ Below w.heap.size w w' := fun w h => by
    have := sum_any (f ++ a) w h (by rw [ByteArray.size_append]; omega)
    unfold sumS at this
    rw [data_append] at this
    exact this
  have SB : ∀ w, Tabs w → Calls Tryd.prog 13 #[.string (f ++ b)] w fun e w' => e = .returned (.string (digL (f.data.toList ++ b.data.toList))) ∧ Below w.heap.size w w' := fun w h => by
    have := sum_any (f ++ b) w h (by rw [ByteArray.size_append]; omega)
    unfold sumS at this
    rw [data_append] at this
    exact this
  have G1 := Lib.hid SF; have G2 := Lib.hid SA; have G3 := Lib.hid SB
  have LF := Lib.hid lf; have LA := Lib.hid la; have LB := Lib.hid lb
  have hlt0 := hT.lt
  have HJ : Hid (_ ∧ _) := And.intro hj1 hj2
  clear hT SF SA SB lf la lb hj1 hj2
  go_enter Tryd.func8, Tryd.ntmps8
  go_wp2_with fail
  refine (awake_true w HT.out).mono ?_
  rintro e w1 ⟨rfl, hb1⟩
  have T1 := Lib.hid (HT.out.next hb1); have N1 := Lib.hid hb1
  have z1 : 1 < w1.heap.size := by have := hb1.size; omega
  clear hb1
  go_wp2_with fail
  refine (new_any w1).mono ?_
  rintro e w2 ⟨rfl, hB2, hb2⟩
  have T2 := Lib.hid (T1.out.next hb2); have N2 := Lib.hid (N1.out.trans (hb2.mono N1.out.size))
  have B2 : Hid (HBlk w2 w1.heap.size (absorb init []).1 ((absorb init []).2 : Nat)) := hB2
  clear hB2 hb2
  go_wp2_with fail
  refine (write_one w1.heap.size [] f w2 B2.out T2.out z1 (by decide) (by omega)).mono ?_
  rintro e w3 ⟨rfl, hB3, hm3⟩
  rw [List.nil_append] at hB3
  have T3 := Lib.hid (T2.out.mod hm3 z1); have N3 := Lib.hid (hm3.below N2.out N2.out.size N1.out.size)
  have B3 := Lib.hid hB3
  have z3 : w1.heap.size < w3.heap.size := hB3.lt
  clear hB3 hm3
  go_wp2_with fail
  refine (clone_any w1.heap.size _ _ w3 B3.out).mono ?_
  rintro e w4 ⟨rfl, hC4, hb4⟩
  have T4 := Lib.hid (T3.out.next hb4); have N4 := Lib.hid (N3.out.trans (hb4.mono N3.out.size))
  have B4 := Lib.hid (B3.out.below hb4 z3); have C4 := Lib.hid hC4
  clear hC4 hb4
  have hne : ¬ w3.heap.size = w1.heap.size := by omega
  have hpe := run_eql_ptr_other (P := Tryd.prog) w4 (tp := 35) (a := ⟨w3.heap.size, 0, none⟩) (b := ⟨w1.heap.size, 0, none⟩) Tryd.underlying35 HJ.out.1 HJ.out.2 (fun e => hne (congrArg Addr.block e)) C4.out B4.out
  go_wp2_with fail
  refine (write_one w1.heap.size f.data.toList a w4 B4.out T4.out z1 (by rw [LF.out]; omega) (by omega)).mono ?_
  rintro e w5 ⟨rfl, hB5, hm5⟩
  have T5 := Lib.hid (T4.out.mod hm5 z1); have N5 := Lib.hid (hm5.below N4.out N4.out.size N1.out.size)
  have B5 := Lib.hid hB5; have C5 := Lib.hid (C4.out.mod hm5 hne)
  clear hB5 hm5
  have cnt : ∀ l : List UInt8, (l.length : Int) ≤ 1000 → (((absorb init l).2 : Nat) : Int) ≤ 4611686018427387904 := fun l h => by rw [absorb_count]; simp only [init]; omega
  have CNT := Lib.hid cnt
  clear cnt
  go_wp2_with fail
  refine (hsum_list w3.heap.size _ w5 C5.out T5.out (CNT.out _ (by rw [LF.out]; omega))).mono ?_
  rintro e w6 ⟨rfl, hb6⟩
  have T6 := Lib.hid (T5.out.next hb6); have N6 := Lib.hid (N5.out.trans (hb6.mono N5.out.size))
  have B6 := Lib.hid (B5.out.below hb6 B5.out.lt); have C6 := Lib.hid (C5.out.below hb6 C5.out.lt)
  clear hb6
  go_wp2_with fail
  refine (G1.out w6 T6.out).mono ?_
  rintro e w7 ⟨rfl, hb7⟩
  have T7 := Lib.hid (T6.out.next hb7); have N7 := Lib.hid (N6.out.trans (hb7.mono N6.out.size))
  have B7 := Lib.hid (B6.out.below hb7 B6.out.lt); have C7 := Lib.hid (C6.out.below hb7 C6.out.lt)
  clear hb7
  have w8' := write_one w3.heap.size f.data.toList b w7 C7.out T7.out (by omega) (by rw [LF.out]; omega) (by omega)
  rw [LF.out] at w8'
  have W8 := Lib.hid w8'
  clear w8'
  go_wp2_with fail
  refine W8.out.mono ?_
  rintro e w8 ⟨rfl, hC8, hm8⟩
  have hge : w.heap.size ≤ w3.heap.size := by have := N3.out.size; omega
  have T8 := Lib.hid (T7.out.mod hm8 (by omega)); have N8 := Lib.hid (hm8.below N7.out N7.out.size hge)
  have B8 := Lib.hid (B7.out.mod hm8 (fun e => hne e.symm)); have C8 := Lib.hid hC8
  clear hC8 hm8
  go_wp2_with fail
  refine (hsum_list w1.heap.size _ w8 B8.out T8.out (CNT.out _ (by rw [List.length_append, LF.out, LA.out]; omega))).mono ?_
  rintro e w9 ⟨rfl, hb9⟩
  have T9 := Lib.hid (T8.out.next hb9); have N9 := Lib.hid (N8.out.trans (hb9.mono N8.out.size))
  have C9 := Lib.hid (C8.out.below hb9 C8.out.lt)
  clear hb9
  go_wp2_with fail
  refine (G2.out w9 T9.out).mono ?_
  rintro e w10 ⟨rfl, hb10⟩
  have T10 := Lib.hid (T9.out.next hb10); have N10 := Lib.hid (N9.out.trans (hb10.mono N9.out.size))
  have C10 := Lib.hid (C9.out.below hb10 C9.out.lt)
  clear hb10
  go_wp2_with fail
  refine (hsum_list w3.heap.size _ w10 C10.out T10.out (CNT.out _ (by rw [List.length_append, LF.out, LB.out]; omega))).mono ?_
  rintro e w11 ⟨rfl, hb11⟩
  have T11 := Lib.hid (T10.out.next hb11); have N11 := Lib.hid (N10.out.trans (hb11.mono N10.out.size))
  clear hb11
  go_wp2_with fail
  refine (G3.out w11 T11.out).mono ?_
  rintro e w12 ⟨rfl, hb12⟩
  have N12 := Lib.hid (N11.out.trans (hb12.mono N11.out.size))
  clear hb12
  go_wp2
  go_ret
  exact ⟨ret_bool rfl, N12.out⟩
theorem clones_any (f a b : ByteArray) (w : World) (hT : Tabs w) :
    Calls Tryd.prog 8 #[.string f, .string a, .string b] w fun e w' => e = .returned (.bool true) ∧ Below w.heap.size w w' := by
  by_cases h : 300 < (f.size : Int) ∨ 300 < (a.size : Int) ∨ 300 < (b.size : Int)
  · exact clones_long f a b w hT h
  · exact clones_in f a b w hT (by omega) (by omega) (by omega)

set_option maxRecDepth 100000 in
theorem clones_lifted (os : Os) (started : os.Started) (H : Type) (enc : TypeId × Value → H) :
    ReturnsInHanded {} Tryd.checked os 8 .any (fun w args => (Rows.digestClonesSpec.pre enc Tryd.prog Tryd.f8 [] false w args ∧ laidMetH Tryd.prog laid2 w) ∧ sizedMet enc Tryd.prog Tryd.f8 (OpenSpec.ofChange Rows.digestClonesSpec) false w args)
      (Rows.digestClonesSpec.post enc Tryd.prog Tryd.f8 false true false false) := by
  refine returnsInHanded_of_change_and (C := Tryd.checked) (X := fun w _ => laidMetH Tryd.prog laid2 w) (fun _ _ _ hh h => h.of_heap hh) own started (by kernel_rfl) Tryd.func8
    (ChangeSpec.witness_shaped (enc := enc) (C := Tryd.checked) (os := os) (X := fun w _ => laidMetH Tryd.prog laid2 w) false (World.doorLaid Tryd.prog 400 os) #[.string { data := #[] }, .string { data := #[] }, .string { data := #[] }] 8 rfl (World.shaped_of_RefB (by kernel_rfl) (by kernel_rfl)) (by kernel_rfl) (by kernel_rfl) (by kernel_rfl) (door_met os _)) ?_
  intro W base args ds gs before hval0 hW _ _ hL _
  have hval : ∀ (j : Nat) t v, Tryd.f8.params[j]? = some t → args[j]? = some v → Value.okWide Tryd.prog W .any base t v := hval0
  have hW' := hW
  obtain ⟨p, q, hA0, hV, rfl, hfz, hnd⟩ := hW
  have hA : DataW.TrodAll enc Tryd.prog W 0 (fun _ => true) true Tryd.f8.params.toList args.toList ds p := hA0
  rw [Tryd.params8] at hA hval
  obtain ⟨v0, v1, v2, d0, d1, d2, p0, p1, p2, rfl, rfl, rfl, h0, h1, h2⟩ := trodAll_three hA
  obtain ⟨rfl, rfl⟩ := trodVars_none hV
  obtain ⟨f, rfl, rfl, rfl, wf⟩ := open_string Tryd.underlying9 (hval 0 9 v0 rfl rfl) h0
  obtain ⟨a, rfl, rfl, rfl, wa⟩ := open_string Tryd.underlying9 (hval 1 9 v1 rfl rfl) h1
  obtain ⟨b, rfl, rfl, rfl, wb⟩ := open_string Tryd.underlying9 (hval 2 9 v2 rfl rfl) h2
  refine (clones_any f a b W (tabs_of_laid hL)).mono fun e W' ⟨he, hb⟩ => ?_
  subst he
  exact ⟨_, rfl, post_true rfl rfl (by kernel_rfl) hW' rfl hb⟩

theorem clones_said : Rows.DigestClonesSaid :=
  OpenClaim.holds_of_wide 8 Tryd.f8 rfl rfl rfl rfl rfl rfl rfl ⟨rfl, rfl, rfl, rfl, rfl⟩ rfl rfl rfl rfl rfl (by kernel_rfl) Tryd.func8 (by kernel_rfl)
    (of_decide_eq_true (by kernel_rfl)) (by unfold Func.isWrapper; first | (rw [if_pos (by decide +kernel)]; kernel_rfl) | (rw [if_neg (by decide +kernel)]; exact ⟨rfl, rfl⟩))
    (fun os started H enc _ => clones_lifted os started H enc)

theorem clones_holds : Rows.DigestClonesCardSaid :=
  Claim7.holds_tied_plain_at .later [] [.data, .data] true (true, "280c02de953955338018498cf6fba117732bdeded41a15fbf9e28c4ac14ce8df") false
    clones_said (fun _ h => by cases h) (by kernel_rfl) (fun _ h => by cases h) digestClones_row_tie rfl ⟨rfl, rfl⟩ (by kernel_rfl) rfl
    (fun f fn hf hfn => by
      obtain rfl : f = 8 := Option.some.inj ((show Tryd.prog.funcNamed "archivum/archivumlaw01.DigestClones" = some 8 by kernel_rfl).symm.trans hf) |>.symm
      obtain rfl : fn = Tryd.f8 := (Option.some.inj (Tryd.func8.symm.trans hfn)).symm
      exact ⟨by kernel_rfl, fun j t ht => by
        rw [Tryd.params8] at ht
        have hm : t ∈ [9, 9, 9] := by simpa using Array.mem_of_getElem? ht
        have hall : ([9, 9, 9].all fun u => !Tryd.prog.wantsStandIn u) = true := by kernel_rfl
        exact (show Tryd.prog.wantsStandIn t = false by simpa using List.all_eq_true.1 hall t hm)⟩)
    (by kernel_rfl)
#print axioms clones_holds
end Go.Proofs.YtojmolemhdonfaaDoor
