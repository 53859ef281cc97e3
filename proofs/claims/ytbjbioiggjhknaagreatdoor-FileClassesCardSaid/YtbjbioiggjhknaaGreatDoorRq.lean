/-
  The reference's Parse, for any string. No statement of the seat is proved here.
-/
import Derived.Test.YtbjbioiggjhknaaGreatDoorRp
import Derived.Test.YtbjbioiggjhknaaGreatDoorPa
namespace Go.Proofs.YtbjbioiggjhknaaGreatDoor
open Go Go.RowKit Go.Shelf

theorem ints_snoc (ns : List Int) (n : Int) : ints ns ++ [.int .i64 n] = ints (ns ++ [n]) := by simp [ints]
theorem bs_cut (s : ByteArray) (f j : Nat) : bs (s.extract f j) = ((bs s).drop f).take (j - f) := by
  rw [bs_extract, List.drop_take]
theorem cut_dot {l : List UInt8} {f j : Nat} (hf : f ≤ j) (hj : j < l.length) (hd : l[j] = 46) (hn : ∀ k (h : k < l.length), f ≤ k → k < j → l[k] ≠ 46) : splits (l.drop f) = (l.drop f).take (j - f) :: splits (l.drop (j + 1)) := by
  have e : l.drop f = (l.drop f).take (j - f) ++ 46 :: l.drop (j + 1) := by
    have h1 := (List.take_append_drop (j - f) (l.drop f)).symm
    rw [List.drop_drop, show f + (j - f) = j by omega, List.drop_eq_getElem_cons hj, hd] at h1
    exact h1
  have hno : ∀ c ∈ (l.drop f).take (j - f), c ≠ 46 := by
    intro c hc
    obtain ⟨k, hk, rfl⟩ := List.getElem_of_mem hc
    rw [List.length_take, List.length_drop] at hk
    rw [List.getElem_take, List.getElem_drop]
    exact hn _ _ (by omega) (by omega)
  have := splits_dot hno (l.drop (j + 1))
  rw [← e] at this
  exact this
theorem cut_end {l : List UInt8} {f : Nat} (hn : ∀ k (h : k < l.length), f ≤ k → l[k] ≠ 46) : splits (l.drop f) = [(l.drop f).take (l.length - f)] := by
  rw [List.take_of_length_le (by rw [List.length_drop]; exact Nat.le_refl _)]
  refine splits_no fun c hc => ?_
  obtain ⟨k, hk, rfl⟩ := List.getElem_of_mem hc
  rw [List.length_drop] at hk
  rw [List.getElem_drop]
  exact hn _ _ (by omega)

/-- Between two rounds. -/
structure RI (w : World) (l : List UInt8) (v : Value) (f j : Nat) (wr : World) : Prop where
  ex : ∃ ns pre, Nums pre ns ∧ ns.length ≤ j ∧ wr.ownsRow w.heap.size 3 1 v ns.length (ints ns) ∧ ((j ≤ l.length ∧ f ≤ j ∧ splits l = pre ++ splits (l.drop f)) ∨ (j = l.length + 1 ∧ splits l = pre))
  dots : ∀ k (h : k < l.length), f ≤ k → k < j → l[k] ≠ 46
  bel : Below w.heap.size w wr

set_option maxRecDepth 100000 in
set_option maxHeartbeats 4000000 in
theorem refParse_any (s : ByteArray) (w : World) (hs : s.size ≤ 1000000000000) : Calls Tryz.prog 93 #[.string s] w (ParseTo (bs s) w) := by
  obtain ⟨i0, hi, hz0, hz1, hz2⟩ := info_parts info3
  have I0 : Hid (RI w (bs s) (.slice (some ⟨w.heap.size, 0, none⟩) 0 0) 0 0 (w.alloc (.cells #[] 3))) := by
    refine ⟨⟨[], [], Nums.nil, Nat.le_refl _, ⟨rfl, .inr ⟨w.heap.size, 0, #[], rfl, Nat.le_refl _, ?_, Nat.le_refl _, by unfold maxLen; omega, rfl, rfl⟩⟩, .inl ⟨Nat.zero_le _, Nat.le_refl _, rfl⟩⟩, fun k _ _ h => absurd h (by omega), (Below.refl _ _).alloc (Nat.le_refl _) _⟩
    exact show (w.heap.push _)[w.heap.size]? = _ by simp
  go_enter Tryz.func93, Tryz.ntmps93
  go_wp2_with fail
  go_loopw [4, 5, 6] (fun v from' i wr => ∃ f j : Nat, from' = .int .i64 f ∧ i = .int .i64 j ∧ RI w (bs s) v f j wr) (fun _ _ i _ => s.size + 1 - (intOf i).toNat)
  case atStart => exact ⟨0, 0, rfl, rfl, I0.out⟩
  case round =>
    obtain ⟨f, j, rfl, rfl, hI⟩ := hrel
    have L := bs_len s
    obtain ⟨ns, pre, hnu, hnj, hrow, hpos⟩ := hI.ex
    have HID := hI.dots
    have NU := Lib.hid hnu; have RW := Lib.hid hrow; have BEL := Lib.hid hI.bel
    clear hI I0 hnu hrow
    rcases hpos with ⟨hj1, hfj, HI3⟩ | ⟨hj1, HI3⟩
    · have dl : decide ((j : Int) ≤ (s.size : Int)) = true := by rw [decide_eq_true_iff]; omega
      by_cases hjs : j = s.size
      · have q1 : ((j : Int) == (s.size : Int)) = true := by rw [beq_iff_eq]; omega
        have q2 : (bs s).length - f = j - f := by omega
        have q4 : j + 1 = (bs s).length + 1 := by omega
        clear hjs
        have nxt : (splits (bs s) = pre ++ bs (s.extract f j) :: []) := by
          rw [HI3, bs_cut, cut_end (fun k h h1 => HID k h h1 (by omega)), q2]
        have NXT := Lib.hid nxt
        clear nxt HI3 HID
        have x1 : (0 : Int) ≤ (f : Int) := by omega
        have x2 : (f : Int) ≤ (j : Int) := by omega
        have x3 : (j : Int) ≤ (s.size : Int) := by omega
        have hxs : (s.extract f j).size ≤ 1000000000000 := by have := bs_len (s.extract f j); rw [bs_cut, List.length_take, List.length_drop] at this; omega
        obtain ⟨x, hx⟩ : ∃ x, x = s.extract f j := ⟨_, rfl⟩
        rw [← hx] at NXT hxs
        have HX : s.extract f j = x := hx.symm
        clear hx
        cases hn : numOf (bs x) with
        | none =>
          have NO : Hid (∀ ns, ¬ Is (bs s) ns) := not_is NXT.out (.inl hn)
          have C := Lib.hid (part_none x wr hxs hn)
          clear hn NXT
          go_wp2_with fail
          try rw [HX]
          refine C.out.mono ?_
          rintro e w2 ⟨rfl, rfl⟩
          go_wp2_with fail
          go_ret2
          exact ⟨BEL.out, .inr ⟨NO.out, rfl⟩⟩
        | some n =>
          have NU2 := Lib.hid (NU.out.snoc hn)
          have C := Lib.hid (part_some x n wr hn)
          clear hn
          go_wp2_with fail
          try rw [HX]
          refine C.out.mono ?_
          rintro e w2 ⟨rfl, rfl⟩
          clear C
          go_wp2_with (at_builtin; refine wpList_append_own _ rfl _ _ 90 rfl w.heap.size 3 i0 (.int .i64 0) 1 8 Tryz.underlying90 hi hz0 hz1 hz2 rfl (by decide) _ _ _ rfl (RW.out.alloc _) ⟨wr.heap.size, 0, none⟩ 1 1 [.int .i64 n] rfl rfl (cell_one_new _ _ _) (by simp [Value.oneCell']) (by unfold maxLen; omega) (by omega) (by have := BEL.out.size; simp; omega) ?_; intro v' w1 hown1 hgrow1 _)
          have RI2 : Hid (RI w (bs s) v' (j + 1) (j + 1) w1) := by
            refine ⟨⟨ns ++ [n], pre ++ [bs x], NU2.out, by simp; omega, ?_, .inr ⟨q4, by rw [NXT.out]⟩⟩, fun k _ h1 h2 => absurd h1 (by omega), ?_⟩
            · rw [List.length_append, List.length_singleton, ← ints_snoc]; exact hown1
            · refine (BEL.out.alloc BEL.out.size (.cells #[.int .i64 n] 3)).grown hgrow1 (by have := BEL.out.size; simp; omega) ?_
              intro k e
              exact (RW.out.lt k e).1
          clear hown1 hgrow1
          go_wp2_with fail
          go_roundw
          case rel => exact ⟨j + 1, j + 1, by go_num, by go_num, RI2.out⟩
          case measure => simp [intOf]; omega
      · have q1 : ((j : Int) == (s.size : Int)) = false := by rw [beq_eq_false_iff_ne]; omega
        have hlt : j < s.size := by omega
        by_cases hc : s[j] = 46
        · have hdot : (bs s)[j]'(by omega) = 46 := by rw [← at_bs2 s j hlt]; exact hc
          have q3 : ((s[j].toNat : Int) == 46) = true := by rw [hc]; rfl
          clear hc
          have nxt : (splits (bs s) = pre ++ bs (s.extract f j) :: splits ((bs s).drop (j + 1))) := by
            rw [HI3, bs_cut, cut_dot hfj (by omega) hdot HID]
          have NXT := Lib.hid nxt
          clear nxt HI3 HID hdot
          have x1 : (0 : Int) ≤ (f : Int) := by omega
          have x2 : (f : Int) ≤ (j : Int) := by omega
          have x3 : (j : Int) ≤ (s.size : Int) := by omega
          have hxs : (s.extract f j).size ≤ 1000000000000 := by have := bs_len (s.extract f j); rw [bs_cut, List.length_take, List.length_drop] at this; omega
          obtain ⟨x, hx⟩ : ∃ x, x = s.extract f j := ⟨_, rfl⟩
          rw [← hx] at NXT hxs
          have HX : s.extract f j = x := hx.symm
          clear hx
          cases hn : numOf (bs x) with
          | none =>
            have NO : Hid (∀ ns, ¬ Is (bs s) ns) := not_is NXT.out (.inl hn)
            have C := Lib.hid (part_none x wr hxs hn)
            clear hn NXT
            go_wp2_with fail
            try rw [HX]
            refine C.out.mono ?_
            rintro e w2 ⟨rfl, rfl⟩
            go_wp2_with fail
            go_ret2
            exact ⟨BEL.out, .inr ⟨NO.out, rfl⟩⟩
          | some n =>
            have NU2 := Lib.hid (NU.out.snoc hn)
            have C := Lib.hid (part_some x n wr hn)
            clear hn
            go_wp2_with fail
            try rw [HX]
            refine C.out.mono ?_
            rintro e w2 ⟨rfl, rfl⟩
            clear C
            go_wp2_with (at_builtin; refine wpList_append_own _ rfl _ _ 90 rfl w.heap.size 3 i0 (.int .i64 0) 1 8 Tryz.underlying90 hi hz0 hz1 hz2 rfl (by decide) _ _ _ rfl (RW.out.alloc _) ⟨wr.heap.size, 0, none⟩ 1 1 [.int .i64 n] rfl rfl (cell_one_new _ _ _) (by simp [Value.oneCell']) (by unfold maxLen; omega) (by omega) (by have := BEL.out.size; simp; omega) ?_; intro v' w1 hown1 hgrow1 _)
            have RI2 : Hid (RI w (bs s) v' (j + 1) (j + 1) w1) := by
              refine ⟨⟨ns ++ [n], pre ++ [bs x], NU2.out, by simp; omega, ?_, .inl ⟨by omega, Nat.le_refl _, by rw [NXT.out]; simp⟩⟩, fun k _ h1 h2 => absurd h1 (by omega), ?_⟩
              · rw [List.length_append, List.length_singleton, ← ints_snoc]; exact hown1
              · refine (BEL.out.alloc BEL.out.size (.cells #[.int .i64 n] 3)).grown hgrow1 (by have := BEL.out.size; simp; omega) ?_
                intro k e
                exact (RW.out.lt k e).1
            clear hown1 hgrow1
            go_wp2_with fail
            go_roundw
            case rel => exact ⟨j + 1, j + 1, by go_num, by go_num, RI2.out⟩
            case measure => simp [intOf]; omega
        · have q3 : ((s[j].toNat : Int) == 46) = false := by
            rw [beq_eq_false_iff_ne]; intro h; exact hc (by rw [← UInt8.toNat_inj]; show s[j].toNat = 46; omega)
          have RI2 : Hid (∀ v, wr.ownsRow w.heap.size 3 1 v ns.length (ints ns) → RI w (bs s) v f (j + 1) wr) := by
            intro v RW
            refine ⟨⟨ns, pre, NU.out, by omega, RW, .inl ⟨by omega, by omega, HI3⟩⟩, fun k h h1 h2 => ?_, BEL.out⟩
            by_cases e : k = j
            · subst e; rw [← at_bs2 s k hlt]; exact hc
            · exact HID k h h1 (by omega)
          clear hc HID HI3
          go_wp2_with fail
          go_roundw
          case rel => exact ⟨f, j + 1, rfl, by go_num, RI2.out _ RW.out⟩
          case measure => simp [intOf]; omega
    · have dl : decide ((j : Int) ≤ (s.size : Int)) = false := by rw [decide_eq_false_iff_not]; omega
      have RW0 := RW.out
      obtain ⟨p, c, rfl⟩ := row_slice RW0
      clear RW0
      obtain ⟨K, hK⟩ : ∃ K, K = ns.length := ⟨_, rfl⟩
      have HK := Lib.hid hK
      rw [← hK] at RW hnj
      rw [← hK]
      clear hK
      by_cases h6 : K ≤ 6
      · have d6 : decide ((K : Int) > 6) = false := by rw [decide_eq_false_iff_not]; omega
        have YES : Hid (Is (bs s) ns) := by
          have := NU.out
          rw [← HI3] at this
          exact this.is (by rw [← HK.out]; exact h6)
        clear HI3 HID
        go_wp2_with fail
        go_ret2
        exact ⟨BEL.out, .inl ⟨ns, _, YES.out, rfl, by rw [← HK.out]; exact RW.out⟩⟩
      · have d6 : decide ((K : Int) > 6) = true := by rw [decide_eq_true_iff]; omega
        have NO : Hid (∀ ns, ¬ Is (bs s) ns) := by
          intro ms hm
          have h1 := hm.nums.2
          have h2 := NU.out.2
          rw [HI3] at h1
          have := congrArg List.length (h1.symm.trans h2)
          rw [List.length_map, List.length_map, ← HK.out] at this
          have := hm.1.2.1
          omega
        clear HI3 HID
        go_wp2_with fail
        go_ret2
        exact ⟨BEL.out, .inr ⟨NO.out, rfl⟩⟩

theorem refParse_ok (s : ByteArray) (ns : List Int) (w : World) (hi : Is (bs s) ns) : Calls Tryz.prog 93 #[.string s] w fun e w' => ∃ p c, e = .returned (.tuple #[.slice p ns.length c, .int .i64 0]) ∧ w'.ownsRow w.heap.size 3 1 (.slice p ns.length c) ns.length (ints ns) ∧ Below w.heap.size w w' := by
  have hs : s.size ≤ 1000000000000 := by have := hi.len; rw [bs_len] at this; omega
  refine (refParse_any s w hs).mono ?_
  rintro e w' ⟨hb, (⟨ms, v, h1, h2, h3⟩ | ⟨h1, _⟩)⟩
  · obtain rfl := hi.unique h1
    obtain ⟨p, c, rfl⟩ := row_slice h3
    exact ⟨p, c, h2, h3, hb⟩
  · exact absurd hi (h1 ns)
theorem refParse_no (s : ByteArray) (w : World) (hs : s.size ≤ 1000000000000) (hi : ∀ ns, ¬ Is (bs s) ns) : Calls Tryz.prog 93 #[.string s] w fun e w' => e = .returned (.tuple #[nil, .int .i64 3]) ∧ Below w.heap.size w w' := by
  refine (refParse_any s w hs).mono ?_
  rintro e w' ⟨hb, (⟨ms, v, h1, h2, h3⟩ | ⟨_, h2⟩)⟩
  · exact absurd h1 (hi ms)
  · exact ⟨h2, hb⟩

end Go.Proofs.YtbjbioiggjhknaaGreatDoor
