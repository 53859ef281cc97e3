/-
  PROVED HERE: the law archivumlaw05.CodeOrders answers true for all inputs: Compare, Within and Free return what the reference returns. No condition. Every input is spoken of.
-/
import Derived.Test.YtbpoggdinefkeaaGreatDoorRb
import Derived.Test.YtbpoggdinefkeaaGreatDoorKit
namespace Go.Proofs.YtbpoggdinefkeaaGreatDoor
open Go.ChangeShapes Go.WideShapes Go.ChangeAt Go.RowKit Go.Joins

theorem freeR_det {tk : List (List UInt8)} {ab : List UInt8} {X X' : ByteArray} {E E' : Int} (h : FreeR tk ab X E) (k : FreeR tk ab X' E') : X = X' ∧ E = E' := by
  rcases h with ⟨rfl, rfl, h⟩ | ⟨h, ns, hns, h'⟩ <;> rcases k with ⟨rfl, rfl, k⟩ | ⟨k, ms, hms, k'⟩
  · exact ⟨rfl, rfl⟩
  · exfalso
    rcases h with ⟨t, ht, hb⟩ | ⟨_, h0, hb⟩
    · obtain ⟨ns, hi⟩ := k t ht
      exact hb ns hi
    · rcases hms with ⟨h1, _⟩ | h1
      · exact h0 h1
      · exact hb _ h1
  · exfalso
    rcases k with ⟨t, ht, hb⟩ | ⟨_, h0, hb⟩
    · obtain ⟨ns, hi⟩ := h t ht
      exact hb ns hi
    · rcases hns with ⟨h1, _⟩ | h1
      · exact h0 h1
      · exact hb _ h1
  · have e : ns = ms := by
      rcases hns with ⟨h1, rfl⟩ | h1 <;> rcases hms with ⟨h2, rfl⟩ | h2
      · rfl
      · exact absurd h1 h2.ne
      · exact absurd h2 h1.ne
      · exact h1.unique h2
    subst e
    rcases h' with ⟨rfl, rfl, h1⟩ | ⟨rfl, h6, m, hm1, hm2, rfl, hn, hin⟩ <;> rcases k' with ⟨rfl, rfl, k1⟩ | ⟨rfl, k6, n, hn1, hn2, rfl, kn, kin⟩
    · exact ⟨rfl, rfl⟩
    · exfalso
      rcases h1 with h1 | h1
      · omega
      · exact kn (h1 n hn1 hn2)
    · exfalso
      rcases k1 with k1 | k1
      · omega
      · exact hn (k1 m hm1 hm2)
    · rcases Nat.lt_trichotomy m n with c | rfl | c
      · exact absurd (kin m hm1 c) hn
      · exact ⟨rfl, rfl⟩
      · exact absurd (hin n hn1 c) kn


def CmpAns (f : FuncId) (a b : ByteArray) (x e : Int) : Prop := ∀ w, Env w → Calls Tryz.prog f #[.string a, .string b] w fun r w' => r = .returned (.tuple #[.int .i64 x, .int .i64 e]) ∧ Below w.heap.size w w'
def WithAns (f : FuncId) (a b : ByteArray) (t : Bool) : Prop := ∀ w, Env w → Calls Tryz.prog f #[.string a, .string b] w fun r w' => r = .returned (.bool t) ∧ Below w.heap.size w w'
def FreeAns (f : FuncId) (p : Option Addr) (n cap : Nat) (taken : List ByteArray) (above X : ByteArray) (E : Int) : Prop := ∀ w, Env w → StrsAt w p taken →
  Calls Tryz.prog f #[.slice p n cap, .string above] w fun e w' => e = .returned (.tuple #[.string X, .int .i64 E]) ∧ Below w.heap.size w w'

theorem ord_a (a b : ByteArray) (p : Option Addr) (n cap : Nat) (taken : List ByteArray) (w : World) (hE : Env w) (hA : StrsAt w p taken) (h : 100 < a.size) (hs : a.size ≤ maxLen) :
    Calls Tryz.prog 3 #[.string a, .string b, .slice p n cap] w fun e w' => e = .returned (.bool true) ∧ Below w.heap.size w w' := by
  unfold maxLen at hs
  have d1 : decide ((a.size : Int) > 100) = true := by rw [decide_eq_true_iff]; omega
  have E0 := Lib.hid hE; have A0 := Lib.hid hA
  clear hE hA
  go_enter Tryz.func3, Tryz.ntmps3
  go_wp2_with fail
  refine (awake_true _ E0.out).mono ?_
  rintro e w0 ⟨rfl, hb⟩
  have B0 := Lib.hid hb
  clear hb A0
  go_wp2_with fail
  go_ret
  exact ⟨rfl, B0.out⟩
theorem ord_b (a b : ByteArray) (p : Option Addr) (n cap : Nat) (taken : List ByteArray) (w : World) (hE : Env w) (hA : StrsAt w p taken) (h0 : a.size ≤ 100) (h : 100 < b.size) (hs : b.size ≤ maxLen) :
    Calls Tryz.prog 3 #[.string a, .string b, .slice p n cap] w fun e w' => e = .returned (.bool true) ∧ Below w.heap.size w w' := by
  unfold maxLen at hs
  have d1 : decide ((a.size : Int) > 100) = false := by rw [decide_eq_false_iff_not]; omega
  have d2 : decide ((b.size : Int) > 100) = true := by rw [decide_eq_true_iff]; omega
  have E0 := Lib.hid hE; have A0 := Lib.hid hA
  clear hE hA
  go_enter Tryz.func3, Tryz.ntmps3
  go_wp2_with fail
  refine (awake_true _ E0.out).mono ?_
  rintro e w0 ⟨rfl, hb⟩
  have B0 := Lib.hid hb
  clear hb A0
  go_wp2_with fail
  go_ret
  exact ⟨rfl, B0.out⟩
theorem ord_few (a b : ByteArray) (p : Option Addr) (n cap : Nat) (taken : List ByteArray) (w : World) (hE : Env w) (hl : taken.length = n) (hA : StrsAt w p taken) (h0 : a.size ≤ 100) (h : b.size ≤ 100) (hn : n ≤ 9223372036854775807) (F0 : few taken = false) :
    Calls Tryz.prog 3 #[.string a, .string b, .slice p n cap] w fun e w' => e = .returned (.bool true) ∧ Below w.heap.size w w' := by
  have d1 : decide ((a.size : Int) > 100) = false := by rw [decide_eq_false_iff_not]; omega
  have d2 : decide ((b.size : Int) > 100) = false := by rw [decide_eq_false_iff_not]; omega
  have E0 := Lib.hid hE; have A0 := Lib.hid hA; have HL := Lib.hid hl
  clear hE hA hl
  go_enter Tryz.func3, Tryz.ntmps3
  go_wp2_with fail
  refine (awake_true _ E0.out).mono ?_
  rintro e w0 ⟨rfl, hb⟩
  have A1 := Lib.hid (A0.out.below hb); have B0 := Lib.hid hb
  clear hb A0
  go_wp2_with fail
  refine (Few_any p n cap taken _ HL.out (by omega) A1.out).mono ?_
  rintro e w1 ⟨rfl, rfl⟩
  rw [F0]
  go_wp2_with fail
  go_ret
  exact ⟨rfl, B0.out⟩

set_option maxRecDepth 100000 in
set_option maxHeartbeats 4000000 in
theorem ord_walk (a b : ByteArray) (p : Option Addr) (n cap : Nat) (taken : List ByteArray) (w : World) (hE : Env w) (hl : taken.length = n) (hA : StrsAt w p taken) (h1 : a.size ≤ 100) (h2 : b.size ≤ 100) (hn : n ≤ 1000000000000) (F0 : few taken = true)
    (x e : Int) (c1 : CmpAns 8 a b x e) (c2 : CmpAns 9 a b x e) (t : Bool) (c5 : WithAns 12 a b t) (c6 : WithAns 13 a b t) (X : ByteArray) (E : Int) (c3 : FreeAns 10 p n cap taken a X E) (c4 : FreeAns 11 p n cap taken a X E) :
    Calls Tryz.prog 3 #[.string a, .string b, .slice p n cap] w fun e w' => e = .returned (.bool true) ∧ Below w.heap.size w w' := by
  have d1 : decide ((a.size : Int) > 100) = false := by rw [decide_eq_false_iff_not]; omega
  have d2 : decide ((b.size : Int) > 100) = false := by rw [decide_eq_false_iff_not]; omega
  have C1 := Lib.hid c1; have C2 := Lib.hid c2; have C3 := Lib.hid c3; have C4 := Lib.hid c4; have C5 := Lib.hid c5; have C6 := Lib.hid c6
  have ex : (x == x) = true := by simp
  have ee : (e == e) = true := by simp
  have et : (t == t) = true := by simp
  have eX : (X.toList == X.toList) = true := by simp
  have eE : (E == E) = true := by simp
  clear c1 c2 c3 c4 c5 c6
  have E0 := Lib.hid hE; have A0 := Lib.hid hA; have HL := Lib.hid hl
  clear hE hA hl
  go_enter Tryz.func3, Tryz.ntmps3
  go_wp2_with fail
  refine (awake_true _ E0.out).mono ?_
  rintro e w0 ⟨rfl, hb⟩
  have A1 := Lib.hid (A0.out.below hb); have B0 := Lib.hid hb
  clear hb A0
  go_wp2_with fail
  refine (Few_any p n cap taken _ HL.out (by omega) A1.out).mono ?_
  rintro e w1 ⟨rfl, rfl⟩
  rw [F0]
  go_wp2_with fail
  refine (C1.out _ (E0.out.below B0.out)).mono ?_
  rintro e w1 ⟨rfl, hb⟩
  have B1 := Lib.hid (B0.out.trans (hb.mono B0.out.size)); have A2 := Lib.hid (A1.out.below hb)
  clear hb
  go_wp2_with fail
  refine (C2.out _ (E0.out.below B1.out)).mono ?_
  rintro e w2 ⟨rfl, hb⟩
  have B2 := Lib.hid (B1.out.trans (hb.mono B1.out.size)); have A3 := Lib.hid (A2.out.below hb)
  clear hb
  go_wp2_with fail
  refine (C3.out _ (E0.out.below B2.out) A3.out).mono ?_
  rintro e w3 ⟨rfl, hb⟩
  have B3 := Lib.hid (B2.out.trans (hb.mono B2.out.size)); have A4 := Lib.hid (A3.out.below hb)
  clear hb
  go_wp2_with fail
  refine (C4.out _ (E0.out.below B3.out) A4.out).mono ?_
  rintro e w4 ⟨rfl, hb⟩
  have B4 := Lib.hid (B3.out.trans (hb.mono B3.out.size)); have A5 := Lib.hid (A4.out.below hb)
  clear hb
  go_wp2_with fail
  refine (C5.out _ (E0.out.below B4.out)).mono ?_
  rintro e w5 ⟨rfl, hb⟩
  have B5 := Lib.hid (B4.out.trans (hb.mono B4.out.size)); have A6 := Lib.hid (A5.out.below hb)
  clear hb
  go_wp2_with fail
  refine (C6.out _ (E0.out.below B5.out)).mono ?_
  rintro e w6 ⟨rfl, hb⟩
  have B6 := Lib.hid (B5.out.trans (hb.mono B5.out.size)); have A7 := Lib.hid (A6.out.below hb)
  clear hb
  go_wp2_with fail
  go_ret
  exact ⟨rfl, B6.out⟩

theorem ord_law (a b : ByteArray) (p : Option Addr) (cap : Nat) (taken : List ByteArray) (w : World) (hE : Env w) (hA : StrsAt w p taken) (z1 : a.size ≤ maxLen) (z2 : b.size ≤ maxLen) (hn : taken.length ≤ maxLen) :
    Calls Tryz.prog 3 #[.string a, .string b, .slice p taken.length cap] w fun e w' => e = .returned (.bool true) ∧ Below w.heap.size w w' := by
  by_cases h1 : 100 < a.size
  · exact ord_a a b p _ cap taken w hE hA h1 z1
  by_cases h2 : 100 < b.size
  · exact ord_b a b p _ cap taken w hE hA (by omega) h2 z2
  cases hf : few taken with
  | false => 
    exact ord_few a b p _ cap taken w hE rfl hA (by omega) (by omega) (by unfold maxLen at hn; omega) hf
  | true =>
    have hfe := hf
    unfold few at hfe
    have hfe := of_decide_eq_true hfe
    have hsz : ∀ y ∈ taken, y.size ≤ 1000000000000 := fun y hy => by have := hfe.2 y hy; omega
    have ha : a.size ≤ 1000000000000 := by omega
    have hb : b.size ≤ 1000000000000 := by omega
    have hc : (∃ x e, CmpAns 8 a b x e ∧ CmpAns 9 a b x e) ∧ ∃ t, WithAns 12 a b t ∧ WithAns 13 a b t := by
      rcases refParse_ans a ha with ⟨xs, i1, p1⟩ | ⟨i1, p1⟩ <;> rcases refParse_ans b hb with ⟨ys, i2, p2⟩ | ⟨i2, p2⟩
      · exact ⟨⟨_, _, fun w hE => Compare_ok a b xs ys w hE i1 i2, fun w hE => refCompare_ok a b xs ys w hE _ _ rfl rfl i1.len6 i2.len6 p1 p2⟩,
          _, fun w hE => Within_ok a b xs ys w hE i1 i2, fun w hE => refWithin_ok a b xs ys w hE _ _ rfl rfl i2.len6 p1 p2⟩
      · exact ⟨⟨_, _, fun w hE => Compare_no a b w hE ha hb (.inr i2), fun w hE => refCompare_no a b _ _ w hE _ _ _ _ (.inr ⟨rfl, rfl⟩) p1 p2⟩,
          _, fun w hE => Within_no a b w hE ha hb (.inr i2), fun w hE => refWithin_no a b _ _ w hE _ _ _ _ (.inr ⟨rfl, rfl⟩) p1 p2⟩
      · exact ⟨⟨_, _, fun w hE => Compare_no a b w hE ha hb (.inl i1), fun w hE => refCompare_no a b _ _ w hE _ _ _ _ (.inl rfl) p1 p2⟩,
          _, fun w hE => Within_no a b w hE ha hb (.inl i1), fun w hE => refWithin_no a b _ _ w hE _ _ _ _ (.inl rfl) p1 p2⟩
      · exact ⟨⟨_, _, fun w hE => Compare_no a b w hE ha hb (.inl i1), fun w hE => refCompare_no a b _ _ w hE _ _ _ _ (.inl rfl) p1 p2⟩,
          _, fun w hE => Within_no a b w hE ha hb (.inl i1), fun w hE => refWithin_no a b _ _ w hE _ _ _ _ (.inl rfl) p1 p2⟩
    obtain ⟨⟨x, e, c1, c2⟩, t, c5, c6⟩ := hc
    have hfr : ∃ X E, FreeAns 10 p taken.length cap taken a X E ∧ FreeAns 11 p taken.length cap taken a X E := by
      by_cases hbig : 1024 < taken.length
      · exact ⟨_, _, fun w _ _ => (Free_long p _ cap a w hbig).mono fun e w' ⟨h1, h2⟩ => ⟨h1, by rw [← h2]; exact Below.refl _ _⟩,
          fun w _ _ => (refFree_long p _ cap a w hbig (by omega)).mono fun e w' ⟨h1, h2⟩ => ⟨h1, by rw [← h2]; exact Below.refl _ _⟩⟩
      · obtain ⟨X, E, hR, _⟩ := Free_any taken a w hE (by omega) hsz ha
        refine ⟨X, E, fun W hEW hAW => ?_, fun W hEW hAW => refFree_any taken a X E hsz ha (by omega) hR p _ cap W hEW rfl hAW⟩
        obtain ⟨X', E', hR', hF'⟩ := Free_any taken a W hEW (by omega) hsz ha
        obtain ⟨rfl, rfl⟩ := freeR_det hR' hR
        exact hF' p _ cap rfl hAW
    obtain ⟨X, E, c3, c4⟩ := hfr
    exact ord_walk a b p _ cap taken w hE rfl hA (by omega) (by omega) (by omega) hf x e c1 c2 t c5 c6 X E c3 c4


set_option maxRecDepth 100000 in
theorem ord_lifted (os : Os) (started : os.Started) (H : Type) (enc : TypeId × Value → H) :
    ReturnsInHanded {} Tryz.checked os 3 .any (fun w args => (Rows.codeOrdersSpec.pre enc Tryz.prog Tryz.f3 [] false w args ∧ laidMetH Tryz.prog laid7 w) ∧ sizedMet enc Tryz.prog Tryz.f3 (OpenSpec.ofChange Rows.codeOrdersSpec) false w args)
      (Rows.codeOrdersSpec.post enc Tryz.prog Tryz.f3 false true false false) := by
  refine wrap (s := Rows.codeOrdersSpec) started (by kernel_rfl) Tryz.func3
    (ChangeSpec.witness_shaped (enc := enc) (C := Tryz.checked) (os := os) (X := fun w _ => laidMetH Tryz.prog laid7 w) false (World.laidAll Tryz.prog os laid7) #[.string ⟨#[]⟩, .string ⟨#[]⟩, .slice none 0 0] 8 (World.laidAll_os _ _ _)
      (World.shaped_of_ZipB (by kernel_rfl) (by kernel_rfl)) (by kernel_rfl) (by kernel_rfl) (by kernel_rfl) (laid_met os _)) ?_
  intro W base args ds gs before hval0 hW hE
  have hval : ∀ (j : Nat) t v, Tryz.f3.params[j]? = some t → args[j]? = some v → Value.okWide Tryz.prog W .any base t v := hval0
  have hW' := hW
  obtain ⟨p, q, hA0, hV, rfl, hfz, hnd⟩ := hW
  have hA : DataW.TrodAll enc Tryz.prog W 0 (fun _ => true) true Tryz.f3.params.toList args.toList ds p := hA0
  rw [Tryz.params3] at hA hval
  obtain ⟨v0, v1, v2, d0, d1, d2, p0, p1, p2, rfl, rfl, rfl, h0, h1, h2⟩ := trodAll_three hA
  obtain ⟨rfl, rfl⟩ := trodVars_none hV
  obtain ⟨s0, rfl, rfl, rfl, z0⟩ := Go.ChangeMaps.open_string Tryz.underlying9 (hval 0 9 v0 rfl rfl) h0
  obtain ⟨s1, rfl, rfl, rfl, z1⟩ := Go.ChangeMaps.open_string Tryz.underlying9 (hval 1 9 v1 rfl rfl) h1
  obtain ⟨a2, c2, n2, rfl, g2, z2⟩ := open_ss (hval 2 22 v2 rfl rfl) h2
  refine (ord_law s0 s1 a2 c2 n2 W hE g2 z0 z1 z2).mono fun e W' ⟨he, hb⟩ => ?_
  subst he
  exact ⟨_, rfl, post_true rfl rfl (by kernel_rfl) hW' rfl hb⟩

theorem ord_said : Rows.CodeOrdersSaid :=
  OpenClaim.holds_of_wide 3 Tryz.f3 rfl rfl rfl rfl rfl rfl rfl ⟨rfl, rfl, rfl, rfl, rfl⟩ rfl rfl rfl rfl rfl (by kernel_rfl) Tryz.func3 (by kernel_rfl)
    (of_decide_eq_true (by kernel_rfl)) (by unfold Func.isWrapper; first | (rw [if_pos (by decide +kernel)]; kernel_rfl) | (rw [if_neg (by decide +kernel)]; exact ⟨rfl, rfl⟩))
    (fun os started H enc _ => ord_lifted os started H enc)

theorem ord_holds : Rows.CodeOrdersCardSaid :=
  Claim7.holds_tied_plain_at .later [] [.data, .data, .data, .data, .sentinel, .sentinel, .pinned] true (true, "0f45df184706ecf52932bfd233f427d6f2d69890488578ac90eb3f19d6a41dd0") true
    ord_said (fun _ h => by cases h) (by kernel_rfl) (fun _ h => by cases h) codeOrders_row_tie rfl ⟨rfl, rfl⟩ (by kernel_rfl) rfl
    (fun f fn hf hfn => by
      obtain rfl : f = 3 := Option.some.inj ((show Tryz.prog.funcNamed "archivum/archivumlaw05.CodeOrders" = some 3 by kernel_rfl).symm.trans hf) |>.symm
      obtain rfl : fn = Tryz.f3 := (Option.some.inj (Tryz.func3.symm.trans hfn)).symm
      exact ⟨by kernel_rfl, fun j t ht => by
        rw [Tryz.params3] at ht
        have hm : t ∈ [9, 9, 22] := by simpa using Array.mem_of_getElem? ht
        have hall : ([9, 9, 22].all fun u => !Tryz.prog.wantsStandIn u) = true := by kernel_rfl
        exact (show Tryz.prog.wantsStandIn t = false by simpa using List.all_eq_true.1 hall t hm)⟩)
    (by kernel_rfl)
#print axioms ord_holds
end Go.Proofs.YtbpoggdinefkeaaGreatDoor
