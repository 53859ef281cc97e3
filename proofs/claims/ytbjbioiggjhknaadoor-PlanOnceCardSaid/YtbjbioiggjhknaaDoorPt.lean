/-
  Parent, Compare, Within for any strings. No statement of the seat is proved here.
-/
import Derived.Test.YtbjbioiggjhknaaDoorMm
namespace Go.Proofs.YtbjbioiggjhknaaDoor
open Go Go.RowKit Go.Shelf

/-- Parse of a class code. -/
theorem Parse_ok (s : ByteArray) (ns : List Int) (w : World) (hE : Env w) (hi : Is (bs s) ns) : Calls Tryd.prog 30 #[.string s] w fun e w' => ∃ p c, e = .returned (.tuple #[.slice p ns.length c, .int .i64 0]) ∧ w'.ownsRow w.heap.size 3 1 (.slice p ns.length c) ns.length (ints ns) ∧ Below w.heap.size w w' := by
  have hs : s.size ≤ 140737488355328 := by have := hi.len; rw [bs_len] at this; omega
  refine (Parse_any s w hE hs).mono ?_
  rintro e w' ⟨hb, (⟨ms, v, h1, h2, h3⟩ | ⟨h1, _⟩)⟩
  · obtain rfl := hi.unique h1
    obtain ⟨p, c, rfl⟩ := row_slice h3
    exact ⟨p, c, h2, h3, hb⟩
  · exact absurd hi (h1 ns)
/-- Parse of what is no class code. -/
theorem Parse_no (s : ByteArray) (w : World) (hE : Env w) (hs : s.size ≤ 140737488355328) (hi : ∀ ns, ¬ Is (bs s) ns) : Calls Tryd.prog 30 #[.string s] w fun e w' => e = .returned (.tuple #[nil, .int .i64 3]) ∧ Below w.heap.size w w' := by
  refine (Parse_any s w hE hs).mono ?_
  rintro e w' ⟨hb, (⟨ms, v, h1, h2, h3⟩ | ⟨_, h2⟩)⟩
  · exact absurd h1 (hi ms)
  · exact ⟨h2, hb⟩

theorem mk_bs (x : ByteArray) : (⟨(bs x).toArray⟩ : ByteArray) = x := by unfold bs; rw [Array.toArray_toList]
theorem at_bs (s : ByteArray) (j : Nat) : s.data[j]! = (bs s).getD j 0 := by
  unfold bs
  by_cases h : j < s.data.size
  · rw [getElem!_pos s.data j h]; simp only [List.getD, Array.getElem?_toList]; rw [Array.getElem?_eq_getElem h]; rfl
  · rw [getElem!_neg s.data j h]
    simp only [List.getD, Array.getElem?_toList, Array.getElem?_eq_none (Nat.le_of_not_lt h)]
    rfl
theorem last_dot {s : ByteArray} {a b : List UInt8} (h : bs s = a ++ 46 :: b) (hb : ∀ c ∈ b, c ≠ 46) : Lib.lastIndexByte s 46 = (a.length : Int) := by
  have hl : s.size = a.length + 1 + b.length := by have := bs_len s; rw [h] at this; simp at this; omega
  have e46 : (46 : UInt8).toNat = 46 := rfl
  rcases Lib.lastIndexByte_spec s 46 with ⟨_, h2⟩ | ⟨i, h1, h2, h3, h4⟩
  · exfalso
    refine h2 a.length (by omega) ?_
    rw [at_bs, h]; simp [List.getD]
  · rw [h2]
    rcases Nat.lt_trichotomy i a.length with k | rfl | k
    · exfalso
      refine h4 a.length k (by omega) ?_
      rw [at_bs, h]; simp [List.getD]
    · rfl
    · exfalso
      rw [at_bs, h] at h3
      obtain ⟨q, rfl⟩ : ∃ q, i = a.length + 1 + q := ⟨i - a.length - 1, by omega⟩
      have hq : q < b.length := by omega
      have e : (a ++ 46 :: b).getD (a.length + 1 + q) 0 = b[q] := by
        simp only [List.getD]
        rw [List.getElem?_append_right (by omega), show a.length + 1 + q - a.length = q + 1 by omega]
        simp [hq]
      rw [e] at h3
      refine hb b[q] (List.getElem_mem hq) ?_
      rw [← UInt8.toNat_inj, e46]; omega

set_option maxRecDepth 100000 in
set_option maxHeartbeats 2000000 in
theorem Parent_yes (s : ByteArray) (ms : List Int) (n : Int) (w : World) (hE : Env w) (h0 : ms ≠ []) (hi : Is (bs s) (ms ++ [n])) :
    Calls Tryd.prog 34 #[.string s] w fun e w' => e = .returned (.tuple #[.string ⟨(textOf ms).toArray⟩, .bool true]) ∧ Below w.heap.size w w' := by
  have P := Lib.hid (Parse_ok s _ w hE hi)
  obtain ⟨hp1, hp2, hp3⟩ := hi.parent h0
  have hL := last_dot hp1 hp2
  have hl := hi.len
  rw [bs_len] at hl
  have hl2 : (textOf ms).length ≤ s.size := by have := bs_len s; rw [hp1] at this; simp at this; omega
  have hm : 1 ≤ ms.length := by cases ms with | nil => exact absurd rfl h0 | cons a b => simp
  have C := Lib.hid (Tryd.strings_LastIndexByte s 46 (by omega))
  rw [hL] at C
  have X : Hid (s.extract 0 (textOf ms).length = ⟨(textOf ms).toArray⟩) := by
    have e : bs (s.extract 0 (textOf ms).length) = textOf ms := by rw [bs_head, hp1]; simp
    exact (mk_bs _).symm.trans (by rw [e])
  obtain ⟨N, hN⟩ : ∃ N, N = (textOf ms).length := ⟨_, rfl⟩
  rw [← hN] at C X hl2
  have hm2 : (ms ++ [n]).length = ms.length + 1 := by simp
  rw [hm2] at P
  have d1 : decide (((ms.length + 1 : Nat) : Int) < 2) = false := by rw [decide_eq_false_iff_not]; omega
  obtain ⟨M, hM⟩ : ∃ M, M = ms.length + 1 := ⟨_, rfl⟩
  rw [← hM] at P d1
  clear hE hi hp1 hp2 hp3 hL hN hm hm2 hM h0
  go_enter Tryd.func34, Tryd.ntmps34
  go_wp2_with fail
  refine P.out.mono ?_
  rintro e w2 ⟨p, c, rfl, hr, hb⟩
  have B := Lib.hid hb
  clear hr hb
  go_wp2_with fail
  refine (C.out _).mono ?_
  rintro e w3 ⟨rfl, rfl⟩
  go_wp2_with fail
  go_ret2
  rw [X.out]
  exact ⟨rfl, B.out⟩

set_option maxRecDepth 100000 in
set_option maxHeartbeats 2000000 in
theorem Parent_no (s : ByteArray) (w : World) (hE : Env w) (hs : s.size ≤ 140737488355328) (hi : ∀ ms n, ms ≠ [] → ¬ Is (bs s) (ms ++ [n])) :
    Calls Tryd.prog 34 #[.string s] w fun e w' => e = .returned (.tuple #[.string ⟨#[]⟩, .bool false]) ∧ Below w.heap.size w w' := by
  have P : Hid (Calls Tryd.prog 30 #[.string s] w fun e w' => ∃ p c k E, k < 2 ∧ e = .returned (.tuple #[.slice p k c, .int .i64 E]) ∧ Below w.heap.size w w') := by
    refine (Parse_any s w hE hs).mono ?_
    rintro e w' ⟨hb, (⟨ns, v, h1, h2, h3⟩ | ⟨_, h2⟩)⟩
    · obtain ⟨p, c, rfl⟩ := row_slice h3
      refine ⟨p, c, ns.length, 0, ?_, h2, hb⟩
      rcases Nat.lt_or_ge ns.length 2 with k | k
      · exact k
      · exfalso
        have e := List.dropLast_concat_getLast h1.1.ne
        refine hi ns.dropLast (ns.getLast h1.1.ne) ?_ (by rw [e]; exact h1)
        intro e2
        have := congrArg List.length e2
        simp at this; omega
    · exact ⟨none, 0, 0, 3, by omega, h2, hb⟩
  clear hE hi
  go_enter Tryd.func34, Tryd.ntmps34
  go_wp2_with fail
  refine P.out.mono ?_
  rintro e w2 ⟨p, c, k, E, hk, rfl, hb⟩
  have B := Lib.hid hb
  have d1 : decide ((k : Int) < 2) = true := by rw [decide_eq_true_iff]; omega
  clear hb hk
  go_wp2_with fail
  go_ret2
  exact ⟨rfl, B.out⟩

/-! ### Compare -/
theorem IntsAt.cell {w : World} {p : Option Addr} {ns : List Int} {k : Nat} (h : IntsAt w p ns) (hk : k < ns.length) : ∃ b o, p = some ⟨b, o, none⟩ ∧ w.cell? ⟨b, o + k, none⟩ = some (.int .i64 (ns.getD k 0)) := by
  rcases h with rfl | ⟨b, o, rfl, h⟩
  · simp at hk
  · exact ⟨b, o, rfl, h k hk⟩
def CmpAt (xs ys : List Int) (k : Nat) : Prop := cmpL xs ys = cmpL (xs.drop k) (ys.drop k)
theorem drop_at {xs : List Int} {k : Nat} (h : k < xs.length) : xs.drop k = xs.getD k 0 :: xs.drop (k + 1) := by
  rw [List.drop_eq_getElem_cons h]; simp [List.getD, h]
theorem cmp_at {xs ys : List Int} {k : Nat} (h1 : k < xs.length) (h2 : k < ys.length) : cmpL (xs.drop k) (ys.drop k) = if xs.getD k 0 < ys.getD k 0 then -1 else if ys.getD k 0 < xs.getD k 0 then 1 else cmpL (xs.drop (k + 1)) (ys.drop (k + 1)) := by
  rw [drop_at h1, drop_at h2, cmpL]
theorem cmp_long {xs ys : List Int} {k : Nat} (h1 : k < xs.length) (h2 : ys.length ≤ k) : cmpL (xs.drop k) (ys.drop k) = 1 := by
  rw [drop_at h1, List.drop_of_length_le h2, cmpL]
theorem cmp_short {xs ys : List Int} {k : Nat} (h1 : xs.length ≤ k) (h2 : k < ys.length) : cmpL (xs.drop k) (ys.drop k) = -1 := by
  rw [drop_at h2, List.drop_of_length_le h1, cmpL]
theorem cmp_same {xs ys : List Int} {k : Nat} (h1 : xs.length ≤ k) (h2 : ys.length ≤ k) : cmpL (xs.drop k) (ys.drop k) = 0 := by
  rw [List.drop_of_length_le h1, List.drop_of_length_le h2, cmpL]
set_option maxRecDepth 100000 in
set_option maxHeartbeats 2000000 in
theorem cmp_loop (p1 p2 : Option Addr) (n1 n2 c1 c2 : Nat) (xs ys : List Int) (w : World) (h1 : IntsAt w p1 xs) (h2 : IntsAt w p2 ys) (e1 : xs.length = n1) (e2 : ys.length = n2) (hx : n1 ≤ 140737488355328) :
    Calls Tryd.prog 58 #[.slice p1 n1 c1, .slice p2 n2 c2] w fun e w' => e = .returned (.int .i64 (cmpL xs ys)) ∧ w = w' := by
  have A1 := Lib.hid h1; have A2 := Lib.hid h2; have E1 := Lib.hid e1; have E2 := Lib.hid e2
  clear h1 h2 e1 e2
  go_enter Tryd.func58, Tryd.ntmps58
  go_wp2
  go_loop [11] (fun i => ∃ k : Nat, k ≤ n1 ∧ i = .int .i64 k ∧ CmpAt xs ys k) (fun i => n1 - (intOf i).toNat)
  case atStart => exact ⟨0, Nat.zero_le _, rfl, by simp [CmpAt]⟩
  case round =>
    obtain ⟨k, hk, rfl, hC⟩ := hrel
    have HC := Lib.hid hC
    clear hC
    by_cases hlt : k < n1
    · have g1 : k < xs.length := by rw [E1.out]; exact hlt
      obtain ⟨b1, o1, rfl, q1⟩ := A1.out.cell g1
      obtain ⟨x, hx⟩ : ∃ x, x = xs.getD k 0 := ⟨_, rfl⟩
      rw [← hx] at q1
      by_cases h2 : k < n2
      · have g2 : k < ys.length := by rw [E2.out]; exact h2
        obtain ⟨b2, o2, rfl, q2⟩ := A2.out.cell g2
        obtain ⟨y, hy⟩ : ∃ y, y = ys.getD k 0 := ⟨_, rfl⟩
        rw [← hy] at q2
        have HX := Lib.hid hx; have HY := Lib.hid hy
        clear hx hy g1 g2
        have d2 : decide ((k : Int) ≥ (n2 : Int)) = false := by rw [decide_eq_false_iff_not]; omega
        have d3 : decide (n2 ≤ k) = false := by rw [decide_eq_false_iff_not]; omega
        have CC := Lib.hid (Tryd.cmp_Compare_int x y)
        by_cases l1 : x < y
        · have v : Lib.compareInt x y = -1 := by unfold Lib.compareInt; rw [if_pos l1]
          have RR := Lib.hid (show cmpL xs ys = -1 by rw [HC.out, cmp_at (by rw [E1.out]; exact hlt) (by rw [E2.out]; exact h2), ← HX.out, ← HY.out, if_pos l1])
          rw [v] at CC
          clear l1 v
          go_wp2_with fail
          refine (CC.out _).mono ?_
          rintro e w' ⟨rfl, rfl⟩
          go_wp2_with fail
          go_ret
          rw [RR.out]
          exact ⟨rfl, rfl⟩
        · by_cases l2 : y < x
          · have v : Lib.compareInt x y = 1 := by unfold Lib.compareInt; rw [if_neg l1, if_pos l2]
            have RR := Lib.hid (show cmpL xs ys = 1 by rw [HC.out, cmp_at (by rw [E1.out]; exact hlt) (by rw [E2.out]; exact h2), ← HX.out, ← HY.out, if_neg l1, if_pos l2])
            rw [v] at CC
            clear l1 l2 v
            go_wp2_with fail
            refine (CC.out _).mono ?_
            rintro e w' ⟨rfl, rfl⟩
            go_wp2_with fail
            go_ret
            rw [RR.out]
            exact ⟨rfl, rfl⟩
          · have v : Lib.compareInt x y = 0 := by unfold Lib.compareInt; rw [if_neg l1, if_neg l2]
            have RR := Lib.hid (show CmpAt xs ys (k + 1) by unfold CmpAt; rw [HC.out, cmp_at (by rw [E1.out]; exact hlt) (by rw [E2.out]; exact h2), ← HX.out, ← HY.out, if_neg l1, if_neg l2])
            rw [v] at CC
            clear l1 l2 v
            go_wp2_with fail
            refine (CC.out _).mono ?_
            rintro e w' ⟨rfl, rfl⟩
            go_wp2_with fail
            go_round
            case rel => exact ⟨k + 1, by omega, by go_num, RR.out⟩
            case measure => simp [intOf]; omega
      · have RR := Lib.hid (show cmpL xs ys = 1 by rw [HC.out, cmp_long (by rw [E1.out]; exact hlt) (by rw [E2.out]; omega)])
        have d2 : decide ((k : Int) ≥ (n2 : Int)) = true := by rw [decide_eq_true_iff]; omega
        have d3 : decide (n2 ≤ k) = true := by rw [decide_eq_true_iff]; omega
        clear g1 hx
        go_wp2_with fail
        go_ret
        rw [RR.out]
        exact ⟨rfl, rfl⟩
    · obtain rfl : k = n1 := by omega
      by_cases h2 : k < n2
      · have RR := Lib.hid (show cmpL xs ys = -1 by rw [HC.out, cmp_short (by rw [E1.out]; exact Nat.le_refl _) (by rw [E2.out]; exact h2)])
        have d3 : decide (k < n2) = true := by rw [decide_eq_true_iff]; omega
        go_wp2_with fail
        go_ret
        rw [RR.out]
        exact ⟨rfl, rfl⟩
      · have RR := Lib.hid (show cmpL xs ys = 0 by rw [HC.out, cmp_same (by rw [E1.out]; exact Nat.le_refl _) (by rw [E2.out]; omega)])
        have d3 : decide (k < n2) = false := by rw [decide_eq_false_iff_not]; omega
        go_wp2_with fail
        go_ret
        rw [RR.out]
        exact ⟨rfl, rfl⟩

end Go.Proofs.YtbjbioiggjhknaaDoor
