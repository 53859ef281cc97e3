/-
  PROVED HERE: the law archivumlaw05.CodeTree answers true for all strings: a code is within its parents and itself and nothing else, and a parent is less than its code. No condition. Every input is spoken of.
-/
import Derived.Test.YtbpoggdinefkeaaDoorBack
import Derived.Test.YtbpoggdinefkeaaDoorTotal
namespace Go.Proofs.YtbpoggdinefkeaaDoor
open Go.ChangeShapes Go.WideShapes Go.ChangeAt Go.RowKit Go.Joins

/-- Whether one of the first i parents of xs, from itself on, is the text b. -/
def wIn (xs : List Int) (b : ByteArray) (i : Nat) : Bool := decide (∃ j, j < i ∧ textOf (xs.take (xs.length - j)) = bs b)
theorem wIn_zero (xs : List Int) (b : ByteArray) : wIn xs b 0 = false := by simp [wIn]
theorem wIn_succ (xs : List Int) (b : ByteArray) (i : Nat) : wIn xs b (i + 1) = (wIn xs b i || (textOf (xs.take (xs.length - i)) == b.toList)) := by
  unfold wIn
  rw [tl, Bool.eq_iff_iff]
  simp only [decide_eq_true_eq, Bool.or_eq_true, beq_iff_eq]
  constructor
  · rintro ⟨j, h1, h2⟩
    by_cases e : j = i
    · subst e; exact .inr h2
    · exact .inl ⟨j, by omega, h2⟩
  · rintro (⟨j, h1, h2⟩ | h)
    · exact ⟨j, by omega, h2⟩
    · exact ⟨i, by omega, h⟩
theorem GoodL.take {xs : List Int} (h : GoodL xs) {k : Nat} (h1 : 1 ≤ k) (h2 : k ≤ xs.length) : GoodL (xs.take k) := by
  refine ⟨by rw [List.length_take]; omega, by have := h.2.1; rw [List.length_take]; omega, fun n hn => h.2.2 n (List.mem_of_mem_take hn)⟩
theorem wIn_full {xs ys : List Int} {b : ByteArray} (h : GoodL xs) (k : Is (bs b) ys) : wIn xs b xs.length = ys.isPrefixOf xs := by
  unfold wIn
  rw [Bool.eq_iff_iff, decide_eq_true_eq, List.isPrefixOf_iff_prefix]
  constructor
  · rintro ⟨j, h1, h2⟩
    have : Is (bs b) (xs.take (xs.length - j)) := ⟨h.take (by omega) (by omega), h2.symm⟩
    rw [k.unique this]
    exact List.take_prefix _ _
  · intro hp
    have hl := hp.length_le
    have h1 := k.1.1
    refine ⟨xs.length - ys.length, by omega, ?_⟩
    rw [show xs.length - (xs.length - ys.length) = ys.length by omega, ← List.prefix_iff_eq_take.1 hp, k.2]
theorem wIn_no {xs : List Int} {b : ByteArray} (h : GoodL xs) (k : ∀ ys, ¬ Is (bs b) ys) : wIn xs b xs.length = false := by
  unfold wIn
  rw [decide_eq_false_iff_not]
  rintro ⟨j, h1, h2⟩
  exact k _ ⟨h.take (by omega) (by omega), h2.symm⟩

/-- The text of the first k numbers. -/
def tx (xs : List Int) (k : Nat) : List UInt8 := textOf (xs.take k)
theorem tx_is {xs : List Int} (h : GoodL xs) {k : Nat} (h1 : 1 ≤ k) (h2 : k ≤ xs.length) : Is (tx xs k) (xs.take k) := ⟨h.take h1 h2, rfl⟩
theorem take_snoc {xs : List Int} {k : Nat} (h : k < xs.length) : xs.take (k + 1) = xs.take k ++ [xs.getD k 0] := by
  rw [List.take_succ_eq_append_getElem h]
  simp [List.getD, h]
theorem tx_parent {xs : List Int} (h : GoodL xs) {k : Nat} (h1 : 1 ≤ k) (h2 : k + 1 ≤ xs.length) (w : World) (hE : Env w) :
    Calls Tryd.prog 13 #[.string ⟨(tx xs (k + 1)).toArray⟩] w fun e w' => e = .returned (.tuple #[.string ⟨(tx xs k).toArray⟩, .bool true]) ∧ Below w.heap.size w w' :=
  Parent_yes _ (xs.take k) (xs.getD k 0) w hE ((h.take h1 (by omega)).ne) (by rw [bs_mk, ← take_snoc (by omega)]; exact tx_is h (by omega) h2)
theorem tx_top {xs : List Int} (h : GoodL xs) (w : World) (hE : Env w) :
    Calls Tryd.prog 13 #[.string ⟨(tx xs 1).toArray⟩] w fun e w' => e = .returned (.tuple #[.string ⟨#[]⟩, .bool false]) ∧ Below w.heap.size w w' := by
  have hi := tx_is h (Nat.le_refl 1) h.1
  refine Parent_no _ w hE ?_ ?_
  · have := hi.len
    rw [← bs_len, bs_mk]; omega
  · intro ms n h0 hh
    rw [bs_mk] at hh
    have := congrArg List.length (hi.unique hh)
    rw [List.length_take, List.length_append] at this
    have h2 : ms.length ≠ 0 := fun e => h0 (List.length_eq_zero_iff.1 e)
    simp at this
    omega
theorem tx_less {xs : List Int} (h : GoodL xs) {k : Nat} (h1 : 1 ≤ k) (h2 : k + 1 ≤ xs.length) : CmpAns ⟨(tx xs k).toArray⟩ ⟨(tx xs (k + 1)).toArray⟩ (-1) 0 := by
  intro w hE
  have := Compare_ok ⟨(tx xs k).toArray⟩ ⟨(tx xs (k + 1)).toArray⟩ (xs.take k) (xs.take (k + 1)) w hE (by rw [bs_mk]; exact tx_is h h1 (by omega)) (by rw [bs_mk]; exact tx_is h (by omega) h2)
  rw [take_snoc (by omega : k < xs.length), cmpL_snoc] at this
  exact this

theorem tree_big (a b : ByteArray) (w : World) (hE : Env w) (h : 100 < a.size ∨ 100 < b.size) (h1 : a.size ≤ maxLen) (h2 : b.size ≤ maxLen) :
    Calls Tryd.prog 5 #[.string a, .string b] w fun e w' => e = .returned (.bool true) ∧ Below w.heap.size w w' := by
  unfold maxLen at h1 h2
  rcases (show 100 < a.size ∨ (a.size ≤ 100 ∧ 100 < b.size) by omega) with h | h
  · have d0 : decide ((a.size : Int) > 100) = true := by rw [decide_eq_true_iff]; omega
    go_enter Tryd.func5, Tryd.ntmps5
    go_wp2_with fail
    refine (awake_true _ hE).mono ?_
    rintro e w1 ⟨rfl, hb⟩
    have B := Lib.hid hb
    clear hb
    go_wp2_with fail
    go_ret
    exact ⟨rfl, B.out⟩
  · have d0 : decide ((a.size : Int) > 100) = false := by rw [decide_eq_false_iff_not]; omega
    have d1 : decide ((b.size : Int) > 100) = true := by rw [decide_eq_true_iff]; omega
    go_enter Tryd.func5, Tryd.ntmps5
    go_wp2_with fail
    refine (awake_true _ hE).mono ?_
    rintro e w1 ⟨rfl, hb⟩
    have B := Lib.hid hb
    clear hb
    go_wp2_with fail
    go_ret
    exact ⟨rfl, B.out⟩

set_option maxRecDepth 100000 in
set_option maxHeartbeats 4000000 in
theorem tree_no (a b : ByteArray) (w : World) (hE : Env w) (h1 : a.size ≤ 100) (h2 : b.size ≤ 100) (hi : ∀ xs, ¬ Is (bs a) xs) :
    Calls Tryd.prog 5 #[.string a, .string b] w fun e w' => e = .returned (.bool true) ∧ Below w.heap.size w w' := by
  have d1 : decide ((a.size : Int) > 100) = false := by rw [decide_eq_false_iff_not]; omega
  have d2 : decide ((b.size : Int) > 100) = false := by rw [decide_eq_false_iff_not]; omega
  have E0 := Lib.hid hE
  have PA := Lib.hid (fun w hE => Parse_no a w hE (by omega) hi)
  have WA : Hid (WithAns a b false) := Lib.hid (fun w hE => Within_no a b w hE (by omega) (by omega) (.inl hi))
  clear hE hi
  go_enter Tryd.func5, Tryd.ntmps5
  go_wp2_with fail
  refine (awake_true _ E0.out).mono ?_
  rintro e w0 ⟨rfl, hb⟩
  have B0 := Lib.hid hb
  clear hb
  go_wp2_with fail
  refine (PA.out _ (E0.out.below B0.out)).mono ?_
  rintro e w1 ⟨rfl, hb⟩
  have B1 := Lib.hid (B0.out.trans (hb.mono B0.out.size))
  clear hb
  go_wp2_with fail
  go_loopw [7, 8, 9, 32] (fun v at' ok i wr => v = .bool false ∧ at' = .string a ∧ ok = .bool false ∧ i = .int .i64 0 ∧ Below w.heap.size w wr) (fun _ _ _ i _ => 8 - (intOf i).toNat)
  case atStart => exact ⟨rfl, rfl, rfl, rfl, B1.out⟩
  case round =>
    obtain ⟨rfl, rfl, rfl, rfl, hb⟩ := hrel
    have B2 := Lib.hid hb
    clear hb
    go_wp2_with fail
    refine (WA.out _ (E0.out.below B2.out)).mono ?_
    rintro e w1 ⟨rfl, hb⟩
    have B3 := Lib.hid (B2.out.trans (hb.mono B2.out.size))
    clear hb
    go_wp2_with fail
    go_ret
    exact ⟨rfl, B3.out⟩

set_option maxRecDepth 100000 in
set_option maxHeartbeats 4000000 in
theorem tree_yes (a b : ByteArray) (xs : List Int) (w : World) (hE : Env w) (h1 : a.size ≤ 100) (h2 : b.size ≤ 100) (hi : Is (bs a) xs) (hw : WithAns a b (wIn xs b xs.length)) :
    Calls Tryd.prog 5 #[.string a, .string b] w fun e w' => e = .returned (.bool true) ∧ Below w.heap.size w w' := by
  have d1 : decide ((a.size : Int) > 100) = false := by rw [decide_eq_false_iff_not]; omega
  have d2 : decide ((b.size : Int) > 100) = false := by rw [decide_eq_false_iff_not]; omega
  have E0 := Lib.hid hE
  have PA := Lib.hid (fun w hE => Parse_ok a xs w hE hi)
  have HG := Lib.hid hi.1
  have WA := Lib.hid hw
  have hl6 := hi.1.2.1
  have hl1 := hi.1.1
  have hat : a = ⟨(tx xs xs.length).toArray⟩ := by
    unfold tx
    rw [List.take_length, ← hi.2, mk_bs]
  have AT := Lib.hid hat
  clear hat
  clear hE hi hw
  obtain ⟨K, hK⟩ : ∃ K, K = xs.length := ⟨_, rfl⟩
  rw [← hK] at PA WA AT hl6 hl1
  have HK := Lib.hid hK
  clear hK
  go_enter Tryd.func5, Tryd.ntmps5
  go_wp2_with fail
  refine (awake_true _ E0.out).mono ?_
  rintro e w0 ⟨rfl, hb⟩
  have B0 := Lib.hid hb
  clear hb
  go_wp2_with fail
  refine (PA.out _ (E0.out.below B0.out)).mono ?_
  rintro e w1 ⟨p, c, rfl, _, hb⟩
  have B1 := Lib.hid (B0.out.trans (hb.mono B0.out.size))
  clear hb PA
  go_wp2_with fail
  go_loopw [7, 8, 9, 32] (fun v at' ok i wr => ∃ j : Nat, j ≤ K ∧ v = .bool (wIn xs b j) ∧ ok = .bool (decide (j < K)) ∧ i = .int .i64 j ∧ (j < K → at' = .string ⟨(tx xs (K - j)).toArray⟩) ∧ (∃ s, at' = .string s) ∧ Below w.heap.size w wr) (fun _ _ _ i _ => 8 - (intOf i).toNat)
  case atStart => exact ⟨0, Nat.zero_le _, by rw [wIn_zero], by rw [decide_eq_true (by omega)], rfl, fun _ => by rw [AT.out]; rfl, ⟨_, rfl⟩, B1.out⟩
  case round =>
    obtain ⟨j, hj, rfl, rfl, rfl, hat, ⟨s, rfl⟩, hb⟩ := hrel
    have B2 := Lib.hid hb
    clear hb
    have dj8 : decide ((j : Int) < 8) = true := by rw [decide_eq_true_iff]; omega
    by_cases hlt : j < K
    · obtain rfl : s = _ := by have := hat hlt; exact Value.string.inj this
      have dj : decide (j < K) = true := decide_eq_true hlt
      rw [dj]
      have WS : Hid (wIn xs b (j + 1) = (wIn xs b j || (tx xs (K - j) == b.toList))) := by rw [HK.out]; exact wIn_succ xs b j
      obtain ⟨x, hx⟩ : ∃ x, x = wIn xs b j := ⟨_, rfl⟩
      obtain ⟨y, hy⟩ : ∃ y, y = (tx xs (K - j) == b.toList) := ⟨_, rfl⟩
      rw [← hx, ← hy] at WS
      rw [← hx]
      clear hx hat
      by_cases hk : K - j = 1
      · rw [hk] at hy ⊢
        have PT := Lib.hid (fun w hE => tx_top (xs := xs) HG.out w hE)
        obtain ⟨t, ht⟩ : ∃ t, t = tx xs 1 := ⟨_, rfl⟩
        rw [← ht] at PT hy ⊢
        clear ht
        have hy' := hy.symm
        clear hy
        cases x <;> cases y <;> {
          go_wp2_with fail
          refine (PT.out _ (E0.out.below B2.out)).mono ?_
          rintro e w3 ⟨rfl, hb⟩
          have B3 := Lib.hid (B2.out.trans (hb.mono B2.out.size))
          clear hb
          go_wp2_with fail
          go_roundw
          case rel => exact ⟨j + 1, by omega, by rw [WS.out]; rfl, by rw [decide_eq_false (by omega)], by go_num, fun h => absurd h (by omega), ⟨_, rfl⟩, B3.out⟩
          case measure => simp [intOf]; omega }
      · obtain ⟨k, hk1⟩ : ∃ k, K - j = k + 1 := ⟨K - j - 1, by omega⟩
        rw [hk1] at hy ⊢
        have PT := Lib.hid (fun w hE => tx_parent (xs := xs) HG.out (k := k) (by omega) (by have := HK.out; omega) w hE)
        have CL := Lib.hid (tx_less (xs := xs) HG.out (k := k) (by omega) (by have := HK.out; omega))
        have hk2 : k = K - (j + 1) := by omega
        have nx : (⟨(tx xs k).toArray⟩ : ByteArray) = ⟨(tx xs (K - (j + 1))).toArray⟩ := by rw [← hk2]
        have NX := Lib.hid nx
        clear nx
        obtain ⟨t, ht⟩ : ∃ t, t = tx xs (k + 1) := ⟨_, rfl⟩
        obtain ⟨u, hu⟩ : ∃ u, u = tx xs k := ⟨_, rfl⟩
        rw [← ht] at PT CL hy ⊢
        rw [← hu] at PT CL NX
        clear ht hu
        have hy' := hy.symm
        clear hy
        cases x <;> cases y <;> {
          go_wp2_with fail
          refine (PT.out _ (E0.out.below B2.out)).mono ?_
          rintro e w3 ⟨rfl, hb⟩
          have B3 := Lib.hid (B2.out.trans (hb.mono B2.out.size))
          clear hb
          go_wp2_with fail
          refine (CL.out _ (E0.out.below B3.out)).mono ?_
          rintro e w4 ⟨rfl, hb⟩
          have B4 := Lib.hid (B3.out.trans (hb.mono B3.out.size))
          clear hb
          go_wp2_with fail
          go_roundw
          case rel => exact ⟨j + 1, by omega, by rw [WS.out]; rfl, by rw [decide_eq_true (by omega)], by go_num, fun h => by rw [NX.out], ⟨_, rfl⟩, B4.out⟩
          case measure => simp [intOf]; omega }
    · obtain rfl : j = K := by omega
      have dj : decide (j < j) = false := decide_eq_false hlt
      rw [dj]
      clear hat
      obtain ⟨x, hx⟩ : ∃ x, x = wIn xs b j := ⟨_, rfl⟩
      rw [← hx] at WA ⊢
      clear hx
      cases x <;> {
        go_wp2_with fail
        refine (WA.out _ (E0.out.below B2.out)).mono ?_
        rintro e w1 ⟨rfl, hb⟩
        have B3 := Lib.hid (B2.out.trans (hb.mono B2.out.size))
        clear hb
        go_wp2_with fail
        go_ret
        exact ⟨rfl, B3.out⟩ }

theorem tree_law (a b : ByteArray) (w : World) (hE : Env w) (z1 : a.size ≤ maxLen) (z2 : b.size ≤ maxLen) :
    Calls Tryd.prog 5 #[.string a, .string b] w fun e w' => e = .returned (.bool true) ∧ Below w.heap.size w w' := by
  by_cases h : 100 < a.size ∨ 100 < b.size
  · exact tree_big a b w hE h z1 z2
  by_cases hi : ∀ xs, ¬ Is (bs a) xs
  · exact tree_no a b w hE (by omega) (by omega) hi
  obtain ⟨xs, hx⟩ := Classical.not_forall_not.1 hi
  refine tree_yes a b xs w hE (by omega) (by omega) hx ?_
  by_cases hb : ∀ ys, ¬ Is (bs b) ys
  · rw [wIn_no hx.1 hb]
    exact fun w hE => Within_no a b w hE (by omega) (by omega) (.inr hb)
  · obtain ⟨ys, hy⟩ := Classical.not_forall_not.1 hb
    rw [wIn_full hx.1 hy]
    exact fun w hE => Within_ok a b xs ys w hE hx hy


set_option maxRecDepth 100000 in
theorem tree_lifted (os : Os) (started : os.Started) (H : Type) (enc : TypeId × Value → H) :
    ReturnsInHanded {} Tryd.checked os 5 .any (fun w args => (Rows.codeTreeSpec.pre enc Tryd.prog Tryd.f5 [] false w args ∧ laidMetH Tryd.prog laid7 w) ∧ sizedMet enc Tryd.prog Tryd.f5 (OpenSpec.ofChange Rows.codeTreeSpec) false w args)
      (Rows.codeTreeSpec.post enc Tryd.prog Tryd.f5 false true false false) := by
  refine wrap (s := Rows.codeTreeSpec) started (by kernel_rfl) Tryd.func5
    (ChangeSpec.witness_shaped (enc := enc) (C := Tryd.checked) (os := os) (X := fun w _ => laidMetH Tryd.prog laid7 w) false (World.laidAll Tryd.prog os laid7) #[.string ⟨#[]⟩, .string ⟨#[]⟩] 8 (World.laidAll_os _ _ _)
      (World.shaped_of_ZipB (by kernel_rfl) (by kernel_rfl)) (by kernel_rfl) (by kernel_rfl) (by kernel_rfl) (laid_met os _)) ?_
  intro W base args ds gs before hval0 hW hE
  have hval : ∀ (j : Nat) t v, Tryd.f5.params[j]? = some t → args[j]? = some v → Value.okWide Tryd.prog W .any base t v := hval0
  have hW' := hW
  obtain ⟨p, q, hA0, hV, rfl, hfz, hnd⟩ := hW
  have hA : DataW.TrodAll enc Tryd.prog W 0 (fun _ => true) true Tryd.f5.params.toList args.toList ds p := hA0
  rw [Tryd.params5] at hA hval
  obtain ⟨v0, v1, d0, d1, p0, p1, rfl, rfl, rfl, h0, h1⟩ := trodAll_two hA
  obtain ⟨rfl, rfl⟩ := trodVars_none hV
  obtain ⟨s0, rfl, rfl, rfl, z0⟩ := Go.ChangeMaps.open_string Tryd.underlying9 (hval 0 9 v0 rfl rfl) h0
  obtain ⟨s1, rfl, rfl, rfl, z1⟩ := Go.ChangeMaps.open_string Tryd.underlying9 (hval 1 9 v1 rfl rfl) h1
  refine (tree_law s0 s1 W hE z0 z1).mono fun e W' ⟨he, hb⟩ => ?_
  subst he
  exact ⟨_, rfl, post_true rfl rfl (by kernel_rfl) hW' rfl hb⟩

theorem tree_said : Rows.CodeTreeSaid :=
  OpenClaim.holds_of_wide 5 Tryd.f5 rfl rfl rfl rfl rfl rfl rfl ⟨rfl, rfl, rfl, rfl, rfl⟩ rfl rfl rfl rfl rfl (by kernel_rfl) Tryd.func5 (by kernel_rfl)
    (of_decide_eq_true (by kernel_rfl)) (by unfold Func.isWrapper; first | (rw [if_pos (by decide +kernel)]; kernel_rfl) | (rw [if_neg (by decide +kernel)]; exact ⟨rfl, rfl⟩))
    (fun os started H enc _ => tree_lifted os started H enc)

theorem tree_holds : Rows.CodeTreeCardSaid :=
  Claim7.holds_tied_plain_at .later [] [.data, .data, .data, .data, .sentinel, .sentinel, .pinned] true (true, "5585ac0de1e38fc76c382604bd46716503cfda96d5a3b4437f73ea2738781a5e") true
    tree_said (fun _ h => by cases h) (by kernel_rfl) (fun _ h => by cases h) codeTree_row_tie rfl ⟨rfl, rfl⟩ (by kernel_rfl) rfl
    (fun f fn hf hfn => by
      obtain rfl : f = 5 := Option.some.inj ((show Tryd.prog.funcNamed "archivum/archivumlaw05.CodeTree" = some 5 by kernel_rfl).symm.trans hf) |>.symm
      obtain rfl : fn = Tryd.f5 := (Option.some.inj (Tryd.func5.symm.trans hfn)).symm
      exact ⟨by kernel_rfl, fun j t ht => by
        rw [Tryd.params5] at ht
        have hm : t ∈ [9, 9] := by simpa using Array.mem_of_getElem? ht
        have hall : ([9, 9].all fun u => !Tryd.prog.wantsStandIn u) = true := by kernel_rfl
        exact (show Tryd.prog.wantsStandIn t = false by simpa using List.all_eq_true.1 hall t hm)⟩)
    (by kernel_rfl)
#print axioms tree_holds
end Go.Proofs.YtbpoggdinefkeaaDoor
