/-
  PROVED HERE: the law archivumlaw05.CodeReads answers true for all strings and lists of numbers: Parse, Format and Parent return what the reference returns. No condition. Every input is spoken of.
-/
import Derived.Test.YtbpoggdinefkeaaDoorRr
import Derived.Test.YtbpoggdinefkeaaDoorKit
namespace Go.Proofs.YtbpoggdinefkeaaDoor
open Go.ChangeShapes Go.WideShapes Go.ChangeAt Go.RowKit Go.Joins

theorem reads_big1 (s : ByteArray) (p : Option Addr) (n cap : Nat) (w : World) (hE : Env w) (h : 100 < s.size) (hs : s.size ≤ maxLen) :
    Calls Tryd.prog 3 #[.string s, .slice p n cap] w fun e w' => e = .returned (.bool true) ∧ Below w.heap.size w w' := by
  unfold maxLen at hs
  have d1 : decide ((s.size : Int) > 100) = true := by rw [decide_eq_true_iff]; omega
  go_enter Tryd.func3, Tryd.ntmps3
  go_wp2_with fail
  refine (awake_true _ hE).mono ?_
  rintro e w1 ⟨rfl, hb⟩
  have B := Lib.hid hb
  clear hb
  go_wp2_with fail
  go_ret
  exact ⟨rfl, B.out⟩
theorem reads_big2 (s : ByteArray) (p : Option Addr) (n cap : Nat) (w : World) (hE : Env w) (h : s.size ≤ 100) (h2 : 12 < n) (hn : n ≤ maxLen) :
    Calls Tryd.prog 3 #[.string s, .slice p n cap] w fun e w' => e = .returned (.bool true) ∧ Below w.heap.size w w' := by
  unfold maxLen at hn
  have d1 : decide ((s.size : Int) > 100) = false := by rw [decide_eq_false_iff_not]; omega
  have d2 : decide ((n : Int) > 12) = true := by rw [decide_eq_true_iff]; omega
  go_enter Tryd.func3, Tryd.ntmps3
  go_wp2_with fail
  refine (awake_true _ hE).mono ?_
  rintro e w1 ⟨rfl, hb⟩
  have B := Lib.hid hb
  clear hb
  go_wp2_with fail
  go_ret
  exact ⟨rfl, B.out⟩

/-- What Parse and its reference answer, in one form. -/
def PAns (f : FuncId) (s : ByteArray) (ns : List Int) (k : Nat) (E : Int) : Prop := ∀ w, Env w → Calls Tryd.prog f #[.string s] w fun e w' => ∃ p c, e = .returned (.tuple #[.slice p k c, .int .i64 E]) ∧ IntsAt w' p ns ∧ Below w.heap.size w w'
def FAns (f : FuncId) (p : Option Addr) (n cap : Nat) (ns : List Int) (X : ByteArray) (E : Int) : Prop := ∀ w, Env w → IntsAt w p ns → Calls Tryd.prog f #[.slice p n cap] w fun e w' => e = .returned (.tuple #[.string X, .int .i64 E]) ∧ Below w.heap.size w w'
def UAns (f : FuncId) (s X : ByteArray) (ok : Bool) : Prop := ∀ w, Env w → Calls Tryd.prog f #[.string s] w fun e w' => e = .returned (.tuple #[.string X, .bool ok]) ∧ Below w.heap.size w w'

set_option maxRecDepth 100000 in
set_option maxHeartbeats 4000000 in
theorem reads_walk (s : ByteArray) (p : Option Addr) (n cap : Nat) (ns : List Int) (w : World) (hE : Env w) (h1 : s.size ≤ 100) (h2 : n ≤ 12) (hA : IntsAt w p ns)
    (ms : List Int) (k : Nat) (E : Int) (hk : ms.length = k) (hk6 : k ≤ 1000) (c1 : PAns 9 s ms k E) (c2 : PAns 10 s ms k E) (X : ByteArray) (F : Int) (c3 : FAns 11 p n cap ns X F) (c4 : FAns 12 p n cap ns X F)
    (Y : ByteArray) (ok : Bool) (c5 : UAns 13 s Y ok) (c6 : UAns 14 s Y ok) :
    Calls Tryd.prog 3 #[.string s, .slice p n cap] w fun e w' => e = .returned (.bool true) ∧ Below w.heap.size w w' := by
  have d1 : decide ((s.size : Int) > 100) = false := by rw [decide_eq_false_iff_not]; omega
  have d2 : decide ((n : Int) > 12) = false := by rw [decide_eq_false_iff_not]; omega
  have E0 := Lib.hid hE; have A0 := Lib.hid hA; have HK := Lib.hid hk
  have C1 := Lib.hid c1; have C2 := Lib.hid c2; have C3 := Lib.hid c3; have C4 := Lib.hid c4; have C5 := Lib.hid c5; have C6 := Lib.hid c6
  have eE : (E == E) = true := by simp
  have eF : (F == F) = true := by simp
  have eX : (X.toList == X.toList) = true := by simp
  have eY : (Y.toList == Y.toList) = true := by simp
  have eo : (ok == ok) = true := by simp
  clear hE hA hk c1 c2 c3 c4 c5 c6
  go_enter Tryd.func3, Tryd.ntmps3
  go_wp2_with fail
  refine (awake_true _ E0.out).mono ?_
  rintro e w0 ⟨rfl, hb⟩
  have B0 := Lib.hid hb
  clear hb
  go_wp2_with fail
  refine (C1.out _ (E0.out.below B0.out)).mono ?_
  rintro e w1 ⟨q1, c1, rfl, hx, hb⟩
  have B1 := Lib.hid (B0.out.trans (hb.mono B0.out.size)); have X1 := Lib.hid hx
  clear hx
  clear hb
  go_wp2_with fail
  refine (C2.out _ (E0.out.below B1.out)).mono ?_
  rintro e w2 ⟨q2, c2, rfl, hx, hb⟩
  have B2 := Lib.hid (B1.out.trans (hb.mono B1.out.size)); have Y2 := Lib.hid hx
  clear hx
  have X2 := Lib.hid (X1.out.below hb)
  clear hb
  go_wp2_with fail
  refine (C3.out _ (E0.out.below B2.out) (A0.out.below B2.out)).mono ?_
  rintro e w3 ⟨rfl, hb⟩
  have B3 := Lib.hid (B2.out.trans (hb.mono B2.out.size))
  have X3 := Lib.hid (X2.out.below hb)
  have Y3 := Lib.hid (Y2.out.below hb)
  clear hb
  go_wp2_with fail
  refine (C4.out _ (E0.out.below B3.out) (A0.out.below B3.out)).mono ?_
  rintro e w4 ⟨rfl, hb⟩
  have B4 := Lib.hid (B3.out.trans (hb.mono B3.out.size))
  have X4 := Lib.hid (X3.out.below hb)
  have Y4 := Lib.hid (Y3.out.below hb)
  clear hb
  go_wp2_with fail
  refine (C5.out _ (E0.out.below B4.out)).mono ?_
  rintro e w5 ⟨rfl, hb⟩
  have B5 := Lib.hid (B4.out.trans (hb.mono B4.out.size))
  have X5 := Lib.hid (X4.out.below hb)
  have Y5 := Lib.hid (Y4.out.below hb)
  clear hb
  go_wp2_with fail
  refine (C6.out _ (E0.out.below B5.out)).mono ?_
  rintro e w6 ⟨rfl, hb⟩
  have B6 := Lib.hid (B5.out.trans (hb.mono B5.out.size))
  have X6 := Lib.hid (X5.out.below hb)
  have Y6 := Lib.hid (Y5.out.below hb)
  clear hb
  go_wp2_with fail
  refine (SameInts_same q1 q2 c1 c2 k ms _ X6.out Y6.out HK.out (by omega)).mono ?_
  rintro e w7 ⟨rfl, hb⟩
  have B7 := Lib.hid (B6.out.trans (hb.mono B6.out.size))
  clear hb
  go_wp2_with fail
  go_ret
  exact ⟨rfl, B7.out⟩

theorem reads_law (s : ByteArray) (p : Option Addr) (n cap : Nat) (ns : List Int) (w : World) (hE : Env w) (hs : s.size ≤ maxLen) (hn : n ≤ maxLen) (hl : ns.length = n) (hA : IntsAt w p ns) :
    Calls Tryd.prog 3 #[.string s, .slice p n cap] w fun e w' => e = .returned (.bool true) ∧ Below w.heap.size w w' := by
  by_cases h1 : 100 < s.size
  · exact reads_big1 s p n cap w hE h1 hs
  by_cases h2 : 12 < n
  · exact reads_big2 s p n cap w hE (by omega) h2 hn
  have hsz : s.size ≤ 1000000000000 := by omega
  have hp : ∃ ms k E, ms.length = k ∧ k ≤ 1000 ∧ PAns 9 s ms k E ∧ PAns 10 s ms k E := by
    by_cases hx : ∀ xs, ¬ Is (bs s) xs
    · exact ⟨[], 0, 3, rfl, by omega, fun w hE => (Parse_no s w hE hsz hx).mono fun e w' ⟨h1, h2⟩ => ⟨_, _, h1, .inl rfl, h2⟩,
        fun w _ => (refParse_no s w hsz hx).mono fun e w' ⟨h1, h2⟩ => ⟨_, _, h1, .inl rfl, h2⟩⟩
    · obtain ⟨xs, hx⟩ := Classical.not_forall_not.1 hx
      exact ⟨xs, _, 0, rfl, by have := hx.1.2.1; omega, fun w hE => (Parse_ok s xs w hE hx).mono fun e w' ⟨q, c, h1, h2, h3⟩ => ⟨q, c, h1, intsAt_of_row h2, h3⟩,
        fun w _ => (refParse_ok s xs w hx).mono fun e w' ⟨q, c, h1, h2, h3⟩ => ⟨q, c, h1, intsAt_of_row h2, h3⟩⟩
  have hf : ∃ X F, FAns 11 p n cap ns X F ∧ FAns 12 p n cap ns X F := by
    by_cases hg : GoodL ns
    · exact ⟨_, _, fun w hE hA => Format_ok p cap n ns w hl hE hA hg, fun w _ hA => refFormat_ok p cap n ns w hl hA hg⟩
    · exact ⟨_, _, fun w hE hA => Format_bad p cap n ns w hl hE hA hg (by omega), fun w _ hA => refFormat_bad p cap n ns w hl hA hg (by omega)⟩
  have hu : ∃ Y ok, UAns 13 s Y ok ∧ UAns 14 s Y ok := by
    by_cases hx : ∀ ms m, ms ≠ [] → ¬ Is (bs s) (ms ++ [m])
    · exact ⟨_, _, fun w hE => Parent_no s w hE hsz hx, fun w _ => refParent_no s w hsz hx⟩
    · obtain ⟨ms, hx⟩ := Classical.not_forall.1 hx
      obtain ⟨m, hx⟩ := Classical.not_forall.1 hx
      obtain ⟨h0, hx⟩ := Classical.not_imp.1 hx
      have hx := Classical.not_not.1 hx
      exact ⟨_, _, fun w hE => Parent_yes s ms m w hE h0 hx, fun w _ => refParent_yes s ms m w h0 hx⟩
  obtain ⟨ms, k, E, hk, hk6, c1, c2⟩ := hp
  obtain ⟨X, F, c3, c4⟩ := hf
  obtain ⟨Y, ok, c5, c6⟩ := hu
  exact reads_walk s p n cap ns w hE (by omega) (by omega) hA ms k E hk hk6 c1 c2 X F c3 c4 Y ok c5 c6


set_option maxRecDepth 100000 in
theorem reads_lifted (os : Os) (started : os.Started) (H : Type) (enc : TypeId × Value → H) :
    ReturnsInHanded {} Tryd.checked os 3 .any (fun w args => (Rows.codeReadsSpec.pre enc Tryd.prog Tryd.f3 [] false w args ∧ laidMetH Tryd.prog laid7 w) ∧ sizedMet enc Tryd.prog Tryd.f3 (OpenSpec.ofChange Rows.codeReadsSpec) false w args)
      (Rows.codeReadsSpec.post enc Tryd.prog Tryd.f3 false true false false) := by
  refine wrap (s := Rows.codeReadsSpec) started (by kernel_rfl) Tryd.func3
    (ChangeSpec.witness_shaped (enc := enc) (C := Tryd.checked) (os := os) (X := fun w _ => laidMetH Tryd.prog laid7 w) false (World.laidAll Tryd.prog os laid7) #[.string ⟨#[]⟩, .slice none 0 0] 8 (World.laidAll_os _ _ _)
      (World.shaped_of_ZipB (by kernel_rfl) (by kernel_rfl)) (by kernel_rfl) (by kernel_rfl) (by kernel_rfl) (laid_met os _)) ?_
  intro W base args ds gs before hval0 hW hE
  have hval : ∀ (j : Nat) t v, Tryd.f3.params[j]? = some t → args[j]? = some v → Value.okWide Tryd.prog W .any base t v := hval0
  have hW' := hW
  obtain ⟨p, q, hA0, hV, rfl, hfz, hnd⟩ := hW
  have hA : DataW.TrodAll enc Tryd.prog W 0 (fun _ => true) true Tryd.f3.params.toList args.toList ds p := hA0
  rw [Tryd.params3] at hA hval
  obtain ⟨v0, v1, d0, d1, p0, p1, rfl, rfl, rfl, h0, h1⟩ := trodAll_two hA
  obtain ⟨rfl, rfl⟩ := trodVars_none hV
  obtain ⟨s0, rfl, rfl, rfl, z0⟩ := Go.ChangeMaps.open_string Tryd.underlying9 (hval 0 9 v0 rfl rfl) h0
  obtain ⟨a1, c1, n1, rfl, g1, z1⟩ := open_ns (hval 1 22 v1 rfl rfl) h1
  refine (reads_law s0 a1 _ c1 n1 W hE z0 z1 rfl g1).mono fun e W' ⟨he, hb⟩ => ?_
  subst he
  exact ⟨_, rfl, post_true rfl rfl (by kernel_rfl) hW' rfl hb⟩

theorem reads_said : Rows.CodeReadsSaid :=
  OpenClaim.holds_of_wide 3 Tryd.f3 rfl rfl rfl rfl rfl rfl rfl ⟨rfl, rfl, rfl, rfl, rfl⟩ rfl rfl rfl rfl rfl (by kernel_rfl) Tryd.func3 (by kernel_rfl)
    (of_decide_eq_true (by kernel_rfl)) (by unfold Func.isWrapper; first | (rw [if_pos (by decide +kernel)]; kernel_rfl) | (rw [if_neg (by decide +kernel)]; exact ⟨rfl, rfl⟩))
    (fun os started H enc _ => reads_lifted os started H enc)

theorem reads_holds : Rows.CodeReadsCardSaid :=
  Claim7.holds_tied_plain_at .later [] [.data, .data, .data, .data, .sentinel, .sentinel, .pinned] true (true, "5585ac0de1e38fc76c382604bd46716503cfda96d5a3b4437f73ea2738781a5e") true
    reads_said (fun _ h => by cases h) (by kernel_rfl) (fun _ h => by cases h) codeReads_row_tie rfl ⟨rfl, rfl⟩ (by kernel_rfl) rfl
    (fun f fn hf hfn => by
      obtain rfl : f = 3 := Option.some.inj ((show Tryd.prog.funcNamed "archivum/archivumlaw05.CodeReads" = some 3 by kernel_rfl).symm.trans hf) |>.symm
      obtain rfl : fn = Tryd.f3 := (Option.some.inj (Tryd.func3.symm.trans hfn)).symm
      exact ⟨by kernel_rfl, fun j t ht => by
        rw [Tryd.params3] at ht
        have hm : t ∈ [9, 22] := by simpa using Array.mem_of_getElem? ht
        have hall : ([9, 22].all fun u => !Tryd.prog.wantsStandIn u) = true := by kernel_rfl
        exact (show Tryd.prog.wantsStandIn t = false by simpa using List.all_eq_true.1 hall t hm)⟩)
    (by kernel_rfl)
#print axioms reads_holds
end Go.Proofs.YtbpoggdinefkeaaDoor
