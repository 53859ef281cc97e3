/-
  PROVED HERE: the law archivumlaw05.CodeBack answers true for every string and every list of numbers: codes and lists of numbers belong to each other one to one. No condition. Every input is spoken of.
-/
import Derived.Test.YtbpoggdinefkeaaDoorKit
namespace Go.Proofs.YtbpoggdinefkeaaDoor
open Go.ChangeShapes Go.WideShapes Go.ChangeAt Go.RowKit Go.Joins

theorem bs_mk (l : List UInt8) : bs ⟨l.toArray⟩ = l := by simp [bs]
theorem IntsAt.form {w : World} {p : Option Addr} {ns : List Int} (h : IntsAt w p ns) (h0 : ns ≠ []) : ∃ b o, p = some ⟨b, o, none⟩ ∧ ∀ j, j < ns.length → w.cell? ⟨b, o + j, none⟩ = some (.int .i64 (ns.getD j 0)) := by
  rcases h with h | h
  · exact absurd h h0
  · exact h
/-- slices.Equal of two lists of numbers that are alike. -/
theorem Equal_same (p q : Option Addr) (c d n : Nat) (ns : List Int) (w : World) (h1 : IntsAt w p ns) (h2 : IntsAt w q ns) (h0 : ns ≠ []) (hn : ns.length = n) (hb : n ≤ 1000000000000) :
    Calls Tryd.prog 16 #[.slice p n c, .slice q n d] w fun e w' => e = .returned (.bool true) ∧ Below w.heap.size w w' := by
  obtain ⟨b1, o1, rfl, c1⟩ := h1.form h0
  obtain ⟨b2, o2, rfl, c2⟩ := h2.form h0
  refine (Tryd.slices_Equal_int b1 o1 n c b2 o2 n d ns ns w (by omega) (by omega) (by omega) (by omega) c1 c2).mono ?_
  rintro e w' ⟨rfl, q, rfl⟩
  exact ⟨by rw [beq_self_eq_true], drewN_below _ _⟩

theorem back_big (s : ByteArray) (p : Option Addr) (n cap : Nat) (w : World) (hE : Env w) (h : 100 < s.size ∨ 12 < n) (hs : s.size ≤ maxLen) (hn : n ≤ maxLen) :
    Calls Tryd.prog 4 #[.string s, .slice p n cap] w fun e w' => e = .returned (.bool true) ∧ Below w.heap.size w w' := by
  unfold maxLen at hs hn
  rcases (show 100 < s.size ∨ (s.size ≤ 100 ∧ 12 < n) by omega) with h | h
  · have d1 : decide ((s.size : Int) > 100) = true := by rw [decide_eq_true_iff]; omega
    go_enter Tryd.func4, Tryd.ntmps4
    go_wp2_with fail
    refine (awake_true _ hE).mono ?_
    rintro e w1 ⟨rfl, hb⟩
    have B := Lib.hid hb
    clear hb
    go_wp2_with fail
    go_ret
    exact ⟨rfl, B.out⟩
  · have d1 : decide ((s.size : Int) > 100) = false := by rw [decide_eq_false_iff_not]; omega
    have d2 : decide ((n : Int) > 12) = true := by rw [decide_eq_true_iff]; omega
    go_enter Tryd.func4, Tryd.ntmps4
    go_wp2_with fail
    refine (awake_true _ hE).mono ?_
    rintro e w1 ⟨rfl, hb⟩
    have B := Lib.hid hb
    clear hb
    go_wp2_with fail
    go_ret
    exact ⟨rfl, B.out⟩

set_option maxRecDepth 100000 in
set_option maxHeartbeats 4000000 in
theorem back_cg (s : ByteArray) (p : Option Addr) (n cap : Nat) (ns : List Int) (xs : List Int) (w : World) (hE : Env w) (h1 : s.size ≤ 100) (h2 : n ≤ 12) (hl : ns.length = n) (hA : IntsAt w p ns)
    (hx : Is (bs s) xs) (hg : GoodL ns) :
    Calls Tryd.prog 4 #[.string s, .slice p n cap] w fun e w' => e = .returned (.bool true) ∧ Below w.heap.size w w' := by
  have d1 : decide ((s.size : Int) > 100) = false := by rw [decide_eq_false_iff_not]; omega
  have d2 : decide ((n : Int) > 12) = false := by rw [decide_eq_false_iff_not]; omega
  have E0 := Lib.hid hE; have A0 := Lib.hid hA; have HX := Lib.hid hx; have HG := Lib.hid hg; have HL := Lib.hid hl
  have q1 : (textOf xs == s.toList) = true := by rw [tl, beq_iff_eq]; exact hx.2.symm
  obtain ⟨t, ht⟩ : ∃ t, t = textOf xs := ⟨_, rfl⟩
  rw [← ht] at q1
  have HT := Lib.hid ht
  clear ht
  clear hE hA hx hg hl
  go_enter Tryd.func4, Tryd.ntmps4
  go_wp2_with fail
  refine (awake_true _ E0.out).mono ?_
  rintro e w1 ⟨rfl, hb⟩
  have A1 := Lib.hid (A0.out.below hb); have B1 := Lib.hid hb
  clear hb A0
  go_wp2_with fail
  refine (Parse_ok s xs _ (E0.out.below B1.out) HX.out).mono ?_
  rintro e w2 ⟨p2, c2, rfl, hr, hb⟩
  have A2 := Lib.hid (A1.out.below hb); have B2 := Lib.hid (B1.out.trans (hb.mono B1.out.size)); have X2 := Lib.hid (intsAt_of_row hr)
  clear hb hr A1
  have FO := Lib.hid (fun w hE hA => Format_ok p2 c2 xs.length xs w rfl hE hA HX.out.1)
  obtain ⟨K, hK⟩ : ∃ K, K = xs.length := ⟨_, rfl⟩
  rw [← hK, ← HT.out] at FO
  rw [← hK]
  clear hK
  go_wp2_with fail
  refine (FO.out _ (E0.out.below B2.out) X2.out).mono ?_
  rintro e w3 ⟨rfl, hb⟩
  have A3 := Lib.hid (A2.out.below hb); have B3 := Lib.hid (B2.out.trans (hb.mono B2.out.size))
  clear hb A2 X2
  go_wp2_with fail
  refine (Format_ok p cap n ns _ HL.out (E0.out.below B3.out) A3.out HG.out).mono ?_
  rintro e w4 ⟨rfl, hb⟩
  have A4 := Lib.hid (A3.out.below hb); have B4 := Lib.hid (B3.out.trans (hb.mono B3.out.size))
  clear hb A3
  have PA := Lib.hid (fun w hE => Parse_ok ⟨(textOf ns).toArray⟩ ns w hE (by rw [bs_mk]; exact is_textOf HG.out))
  obtain ⟨t2, ht2⟩ : ∃ t, t = textOf ns := ⟨_, rfl⟩
  rw [← ht2] at PA ⊢
  rw [HL.out] at PA
  clear ht2
  go_wp2_with fail
  refine (PA.out _ (E0.out.below B4.out)).mono ?_
  rintro e w5 ⟨p5, c5, rfl, hr, hb⟩
  have A5 := Lib.hid (A4.out.below hb); have B5 := Lib.hid (B4.out.trans (hb.mono B4.out.size)); have X5 := Lib.hid (intsAt_of_row (by rw [← HL.out] at hr; exact hr))
  clear hb hr A4
  go_wp2_with fail
  refine (Equal_same p5 p c5 cap n ns _ X5.out A5.out HG.out.ne HL.out (by omega)).mono ?_
  rintro e w6 ⟨rfl, hb⟩
  have B6 := Lib.hid (B5.out.trans (hb.mono B5.out.size))
  clear hb
  go_wp2_with fail
  go_ret
  exact ⟨rfl, B6.out⟩

set_option maxRecDepth 100000 in
set_option maxHeartbeats 4000000 in
theorem back_cb (s : ByteArray) (p : Option Addr) (n cap : Nat) (ns : List Int) (xs : List Int) (w : World) (hE : Env w) (h1 : s.size ≤ 100) (h2 : n ≤ 12) (hl : ns.length = n) (hA : IntsAt w p ns)
    (hx : Is (bs s) xs) (hg : ¬ GoodL ns) :
    Calls Tryd.prog 4 #[.string s, .slice p n cap] w fun e w' => e = .returned (.bool true) ∧ Below w.heap.size w w' := by
  have d1 : decide ((s.size : Int) > 100) = false := by rw [decide_eq_false_iff_not]; omega
  have d2 : decide ((n : Int) > 12) = false := by rw [decide_eq_false_iff_not]; omega
  have E0 := Lib.hid hE; have A0 := Lib.hid hA; have HX := Lib.hid hx; have HG := Lib.hid hg; have HL := Lib.hid hl
  have q1 : (textOf xs == s.toList) = true := by rw [tl, beq_iff_eq]; exact hx.2.symm
  obtain ⟨t, ht⟩ : ∃ t, t = textOf xs := ⟨_, rfl⟩
  rw [← ht] at q1
  have HT := Lib.hid ht
  clear ht
  clear hE hA hx hg hl
  go_enter Tryd.func4, Tryd.ntmps4
  go_wp2_with fail
  refine (awake_true _ E0.out).mono ?_
  rintro e w1 ⟨rfl, hb⟩
  have A1 := Lib.hid (A0.out.below hb); have B1 := Lib.hid hb
  clear hb A0
  go_wp2_with fail
  refine (Parse_ok s xs _ (E0.out.below B1.out) HX.out).mono ?_
  rintro e w2 ⟨p2, c2, rfl, hr, hb⟩
  have A2 := Lib.hid (A1.out.below hb); have B2 := Lib.hid (B1.out.trans (hb.mono B1.out.size)); have X2 := Lib.hid (intsAt_of_row hr)
  clear hb hr A1
  have FO := Lib.hid (fun w hE hA => Format_ok p2 c2 xs.length xs w rfl hE hA HX.out.1)
  obtain ⟨K, hK⟩ : ∃ K, K = xs.length := ⟨_, rfl⟩
  rw [← hK, ← HT.out] at FO
  rw [← hK]
  clear hK
  go_wp2_with fail
  refine (FO.out _ (E0.out.below B2.out) X2.out).mono ?_
  rintro e w3 ⟨rfl, hb⟩
  have A3 := Lib.hid (A2.out.below hb); have B3 := Lib.hid (B2.out.trans (hb.mono B2.out.size))
  clear hb A2 X2
  go_wp2_with fail
  refine (Format_bad p cap n ns _ HL.out (E0.out.below B3.out) A3.out HG.out (by omega)).mono ?_
  rintro e w4 ⟨rfl, hb⟩
  have B4 := Lib.hid (B3.out.trans (hb.mono B3.out.size))
  clear hb A3
  go_wp2_with fail
  go_ret
  exact ⟨rfl, B4.out⟩

set_option maxRecDepth 100000 in
set_option maxHeartbeats 4000000 in
theorem back_ng (s : ByteArray) (p : Option Addr) (n cap : Nat) (ns : List Int) (w : World) (hE : Env w) (h1 : s.size ≤ 100) (h2 : n ≤ 12) (hl : ns.length = n) (hA : IntsAt w p ns)
    (hx : ∀ xs, ¬ Is (bs s) xs) (hg : GoodL ns) :
    Calls Tryd.prog 4 #[.string s, .slice p n cap] w fun e w' => e = .returned (.bool true) ∧ Below w.heap.size w w' := by
  have d1 : decide ((s.size : Int) > 100) = false := by rw [decide_eq_false_iff_not]; omega
  have d2 : decide ((n : Int) > 12) = false := by rw [decide_eq_false_iff_not]; omega
  have E0 := Lib.hid hE; have A0 := Lib.hid hA; have HX := Lib.hid hx; have HG := Lib.hid hg; have HL := Lib.hid hl
  clear hE hA hx hg hl
  go_enter Tryd.func4, Tryd.ntmps4
  go_wp2_with fail
  refine (awake_true _ E0.out).mono ?_
  rintro e w1 ⟨rfl, hb⟩
  have A1 := Lib.hid (A0.out.below hb); have B1 := Lib.hid hb
  clear hb A0
  go_wp2_with fail
  refine (Parse_no s _ (E0.out.below B1.out) (by omega) HX.out).mono ?_
  rintro e w3 ⟨rfl, hb⟩
  have A3 := Lib.hid (A1.out.below hb); have B3 := Lib.hid (B1.out.trans (hb.mono B1.out.size))
  clear hb A1
  go_wp2_with fail
  refine (Format_ok p cap n ns _ HL.out (E0.out.below B3.out) A3.out HG.out).mono ?_
  rintro e w4 ⟨rfl, hb⟩
  have A4 := Lib.hid (A3.out.below hb); have B4 := Lib.hid (B3.out.trans (hb.mono B3.out.size))
  clear hb A3
  have PA := Lib.hid (fun w hE => Parse_ok ⟨(textOf ns).toArray⟩ ns w hE (by rw [bs_mk]; exact is_textOf HG.out))
  obtain ⟨t2, ht2⟩ : ∃ t, t = textOf ns := ⟨_, rfl⟩
  rw [← ht2] at PA ⊢
  rw [HL.out] at PA
  clear ht2
  go_wp2_with fail
  refine (PA.out _ (E0.out.below B4.out)).mono ?_
  rintro e w5 ⟨p5, c5, rfl, hr, hb⟩
  have A5 := Lib.hid (A4.out.below hb); have B5 := Lib.hid (B4.out.trans (hb.mono B4.out.size)); have X5 := Lib.hid (intsAt_of_row (by rw [← HL.out] at hr; exact hr))
  clear hb hr A4
  go_wp2_with fail
  refine (Equal_same p5 p c5 cap n ns _ X5.out A5.out HG.out.ne HL.out (by omega)).mono ?_
  rintro e w6 ⟨rfl, hb⟩
  have B6 := Lib.hid (B5.out.trans (hb.mono B5.out.size))
  clear hb
  go_wp2_with fail
  go_ret
  exact ⟨rfl, B6.out⟩

set_option maxRecDepth 100000 in
set_option maxHeartbeats 4000000 in
theorem back_nb (s : ByteArray) (p : Option Addr) (n cap : Nat) (ns : List Int) (w : World) (hE : Env w) (h1 : s.size ≤ 100) (h2 : n ≤ 12) (hl : ns.length = n) (hA : IntsAt w p ns)
    (hx : ∀ xs, ¬ Is (bs s) xs) (hg : ¬ GoodL ns) :
    Calls Tryd.prog 4 #[.string s, .slice p n cap] w fun e w' => e = .returned (.bool true) ∧ Below w.heap.size w w' := by
  have d1 : decide ((s.size : Int) > 100) = false := by rw [decide_eq_false_iff_not]; omega
  have d2 : decide ((n : Int) > 12) = false := by rw [decide_eq_false_iff_not]; omega
  have E0 := Lib.hid hE; have A0 := Lib.hid hA; have HX := Lib.hid hx; have HG := Lib.hid hg; have HL := Lib.hid hl
  clear hE hA hx hg hl
  go_enter Tryd.func4, Tryd.ntmps4
  go_wp2_with fail
  refine (awake_true _ E0.out).mono ?_
  rintro e w1 ⟨rfl, hb⟩
  have A1 := Lib.hid (A0.out.below hb); have B1 := Lib.hid hb
  clear hb A0
  go_wp2_with fail
  refine (Parse_no s _ (E0.out.below B1.out) (by omega) HX.out).mono ?_
  rintro e w3 ⟨rfl, hb⟩
  have A3 := Lib.hid (A1.out.below hb); have B3 := Lib.hid (B1.out.trans (hb.mono B1.out.size))
  clear hb A1
  go_wp2_with fail
  refine (Format_bad p cap n ns _ HL.out (E0.out.below B3.out) A3.out HG.out (by omega)).mono ?_
  rintro e w4 ⟨rfl, hb⟩
  have B4 := Lib.hid (B3.out.trans (hb.mono B3.out.size))
  clear hb A3
  go_wp2_with fail
  go_ret
  exact ⟨rfl, B4.out⟩

theorem back_law (s : ByteArray) (p : Option Addr) (n cap : Nat) (ns : List Int) (w : World) (hE : Env w) (hs : s.size ≤ maxLen) (hn : n ≤ maxLen) (hl : ns.length = n) (hA : IntsAt w p ns) :
    Calls Tryd.prog 4 #[.string s, .slice p n cap] w fun e w' => e = .returned (.bool true) ∧ Below w.heap.size w w' := by
  by_cases h : 100 < s.size ∨ 12 < n
  · exact back_big s p n cap w hE h hs hn
  by_cases hx : ∀ xs, ¬ Is (bs s) xs
  · by_cases hg : GoodL ns
    · exact back_ng s p n cap ns w hE (by omega) (by omega) hl hA hx hg
    · exact back_nb s p n cap ns w hE (by omega) (by omega) hl hA hx hg
  · obtain ⟨xs, hx⟩ := Classical.not_forall_not.1 hx
    by_cases hg : GoodL ns
    · exact back_cg s p n cap ns xs w hE (by omega) (by omega) hl hA hx hg
    · exact back_cb s p n cap ns xs w hE (by omega) (by omega) hl hA hx hg


set_option maxRecDepth 100000 in
theorem back_lifted (os : Os) (started : os.Started) (H : Type) (enc : TypeId × Value → H) :
    ReturnsInHanded {} Tryd.checked os 4 .any (fun w args => (Rows.codeBackSpec.pre enc Tryd.prog Tryd.f4 [] false w args ∧ laidMetH Tryd.prog laid7 w) ∧ sizedMet enc Tryd.prog Tryd.f4 (OpenSpec.ofChange Rows.codeBackSpec) false w args)
      (Rows.codeBackSpec.post enc Tryd.prog Tryd.f4 false true false false) := by
  refine wrap (s := Rows.codeBackSpec) started (by kernel_rfl) Tryd.func4
    (ChangeSpec.witness_shaped (enc := enc) (C := Tryd.checked) (os := os) (X := fun w _ => laidMetH Tryd.prog laid7 w) false (World.laidAll Tryd.prog os laid7) #[.string ⟨#[]⟩, .slice none 0 0] 8 (World.laidAll_os _ _ _)
      (World.shaped_of_ZipB (by kernel_rfl) (by kernel_rfl)) (by kernel_rfl) (by kernel_rfl) (by kernel_rfl) (laid_met os _)) ?_
  intro W base args ds gs before hval0 hW hE
  have hval : ∀ (j : Nat) t v, Tryd.f4.params[j]? = some t → args[j]? = some v → Value.okWide Tryd.prog W .any base t v := hval0
  have hW' := hW
  obtain ⟨p, q, hA0, hV, rfl, hfz, hnd⟩ := hW
  have hA : DataW.TrodAll enc Tryd.prog W 0 (fun _ => true) true Tryd.f4.params.toList args.toList ds p := hA0
  rw [Tryd.params4] at hA hval
  obtain ⟨v0, v1, d0, d1, p0, p1, rfl, rfl, rfl, h0, h1⟩ := trodAll_two hA
  obtain ⟨rfl, rfl⟩ := trodVars_none hV
  obtain ⟨s0, rfl, rfl, rfl, z0⟩ := Go.ChangeMaps.open_string Tryd.underlying9 (hval 0 9 v0 rfl rfl) h0
  obtain ⟨a1, c1, n1, rfl, g1, z1⟩ := open_ns (hval 1 22 v1 rfl rfl) h1
  refine (back_law s0 a1 _ c1 n1 W hE z0 z1 rfl g1).mono fun e W' ⟨he, hb⟩ => ?_
  subst he
  exact ⟨_, rfl, post_true rfl rfl (by kernel_rfl) hW' rfl hb⟩

theorem back_said : Rows.CodeBackSaid :=
  OpenClaim.holds_of_wide 4 Tryd.f4 rfl rfl rfl rfl rfl rfl rfl ⟨rfl, rfl, rfl, rfl, rfl⟩ rfl rfl rfl rfl rfl (by kernel_rfl) Tryd.func4 (by kernel_rfl)
    (of_decide_eq_true (by kernel_rfl)) (by unfold Func.isWrapper; first | (rw [if_pos (by decide +kernel)]; kernel_rfl) | (rw [if_neg (by decide +kernel)]; exact ⟨rfl, rfl⟩))
    (fun os started H enc _ => back_lifted os started H enc)

theorem back_holds : Rows.CodeBackCardSaid :=
  Claim7.holds_tied_plain_at .later [] [.data, .data, .data, .data, .sentinel, .sentinel, .pinned] true (true, "5585ac0de1e38fc76c382604bd46716503cfda96d5a3b4437f73ea2738781a5e") true
    back_said (fun _ h => by cases h) (by kernel_rfl) (fun _ h => by cases h) codeBack_row_tie rfl ⟨rfl, rfl⟩ (by kernel_rfl) rfl
    (fun f fn hf hfn => by
      obtain rfl : f = 4 := Option.some.inj ((show Tryd.prog.funcNamed "archivum/archivumlaw05.CodeBack" = some 4 by kernel_rfl).symm.trans hf) |>.symm
      obtain rfl : fn = Tryd.f4 := (Option.some.inj (Tryd.func4.symm.trans hfn)).symm
      exact ⟨by kernel_rfl, fun j t ht => by
        rw [Tryd.params4] at ht
        have hm : t ∈ [9, 22] := by simpa using Array.mem_of_getElem? ht
        have hall : ([9, 22].all fun u => !Tryd.prog.wantsStandIn u) = true := by kernel_rfl
        exact (show Tryd.prog.wantsStandIn t = false by simpa using List.all_eq_true.1 hall t hm)⟩)
    (by kernel_rfl)
#print axioms back_holds
end Go.Proofs.YtbpoggdinefkeaaDoor
