/-
  The pairs of parts of two strings, as the loop of Natural is handed them. No statement of the seat is proved here.
-/
import Derived.Test.YtbpoggdinefkeaaGreatDoorNb
import Derived.RangeFuncKeeps
import Derived.RangeFuncWrites
import Derived.Sort.QuietIn
namespace Go.Proofs.YtbpoggdinefkeaaGreatDoor
open Go Go.RowKit Go.Shelf
attribute [local go_sem] Oper.semAt_some

abbrev Pr := ByteArray × ByteArray
/-- How far a loop over pairs of parts has come. -/
inductive After (a b : List UInt8) : List Pr → List UInt8 → List UInt8 → Prop
  | start : After a b [] a b
  | step {pre : List Pr} {ra rb : List UInt8} {x : Pr} : After a b pre ra rb → (ra ≠ [] ∨ rb ≠ []) → bs x.1 = firstP ra → bs x.2 = firstP rb → After a b (pre ++ [x]) (restP ra) (restP rb)

theorem After.lex {a b : List UInt8} {pre : List Pr} {ra rb : List UInt8} (h : After a b pre ra rb) (hz : ∀ x ∈ pre, cmpP (bs x.1) (bs x.2) = 0) : lexC cmpP (partsL a) (partsL b) = lexC cmpP (partsL ra) (partsL rb) := by
  induction h with
  | start => rfl
  | @step pre ra rb x h1 h2 h3 h4 ih =>
    rw [ih (fun y hy => hz y (by simp [hy])), lex_step ra rb h2, ← h3, ← h4, if_pos (hz x (by simp))]

/-- All pairs. -/
def AllP (a b : List UInt8) (xs : List Pr) : Prop := After a b xs [] []
/-- Pairs up to one. -/
def SomeP (a b : List UInt8) (xs : List Pr) : Prop := ∃ pre x ra rb, xs = pre ++ [x] ∧ After a b pre ra rb ∧ (ra ≠ [] ∨ rb ≠ []) ∧ bs x.1 = firstP ra ∧ bs x.2 = firstP rb

set_option maxRecDepth 100000 in
set_option maxHeartbeats 2000000 in
theorem partsIter_any (a b : ByteArray) (w : World) :
    Calls Tryz.prog 33 #[.string a, .string b] w fun e w' => e = .returned (.func (.func 49) #[] #[.pointer (some ⟨w.heap.size, 0, none⟩), .pointer (some ⟨w.heap.size + 1, 0, none⟩)]) ∧ w' = (w.alloc (.cells #[.string a] 9)).alloc (.cells #[.string b] 9) := by
  go_enter Tryz.func33, Tryz.ntmps33
  go_wp2_with go_in
  go_ret
  exact ⟨rfl, rfl⟩

/-- The length of a string. -/
def lenS (v : Value) : Nat := match v with | .string t => t.size | _ => 0

set_option maxRecDepth 100000 in
set_option maxHeartbeats 4000000 in
theorem pairs_stops (n : Nat) (hn : 1 ≤ n) (ba bb : Nat) (a b : ByteArray) (ha : a.size ≤ 1000000000000) (hb : b.size ≤ 1000000000000) (w : World) (hxa : Boxed w ba 9 (.string a)) (hxb : Boxed w bb 9 (.string b)) :
    SeqStopsK Fence.wide n Tryz.prog 49 #[.pointer (some ⟨ba, 0, none⟩), .pointer (some ⟨bb, 0, none⟩)] (fun x : Pr => #[Value.string x.1, Value.string x.2]) (fun _ _ => True) (AllP (bs a) (bs b)) (SomeP (bs a) (bs b)) (a.size + b.size + 1) w := by
  intro l J Jx W hW hJ hJx hY h0
  have ca := ((hW.cell (p := ⟨ba, 0, none⟩) hxa.lt).trans hxa.cell)
  have cb := ((hW.cell (p := ⟨bb, 0, none⟩) hxb.lt).trans hxb.cell)
  have Y := Lib.hid hY
  have JA : Hid (∀ s W' k, J s W' → J s (World.drewN W' k)) := by
    intro s W' k h
    exact hJ s W' _ none h ⟨rfl, rfl, rfl, Nat.le_refl _, fun _ _ _ => rfl⟩ (fun r e => by cases e)
  clear hY hJ hJx hxa hxb hW
  refine callsIn_of_wp Tryz.func49 rfl trivial ?_ rfl
  simp only [Tryz.ntmps49, List.size_toArray, List.length_cons, List.length_nil, Nat.reduceAdd, Nat.reduceSub, Array.replicate_succ, Array.replicate_zero, List.push_toArray, List.append_toArray, List.nil_append, List.cons_append]
  gi_wp2
  gi_quiet (fail)
  gi_wp2
  gi_loopw [4, 5] (fun x y wr => ∃ (pre : List Pr) (ra rb : ByteArray), x = .string ra ∧ y = .string rb ∧ After (bs a) (bs b) pre (bs ra) (bs rb) ∧ J pre wr ∧ pre.length + ra.size + rb.size ≤ a.size + b.size) (fun x y _ => lenS x + lenS y)
  case atStart => exact ⟨[], a, b, rfl, rfl, .start, JA.out _ _ _ h0, by simp⟩
  case round =>
    obtain ⟨pre, ra, rb, rfl, rfl, hA, hj, hz⟩ := hrel
    have AA := Lib.hid hA; have HJ := Lib.hid hj
    clear hA hj
    by_cases h0 : ra.size = 0 ∧ rb.size = 0
    · have e1 : bs ra = [] := List.length_eq_zero_iff.1 (by rw [bs_len]; exact h0.1)
      have e2 : bs rb = [] := List.length_eq_zero_iff.1 (by rw [bs_len]; exact h0.2)
      have A2 : Hid (AllP (bs a) (bs b) pre) := by have := AA.out; rw [e1, e2] at this; exact this
      have n1 : ra.toList = [] := by rw [tl]; exact e1
      have n2 : rb.toList = [] := by rw [tl]; exact e2
      have n3 : (ra.toList == []) = true := by rw [n1]; rfl
      have n4 : (rb.toList == []) = true := by rw [n2]; rfl
      have n5 : ra.toList.isEmpty = true := by rw [n1]; rfl
      have n6 : rb.toList.isEmpty = true := by rw [n2]; rfl
      clear e1 e2 h0
      gi_wp2
      go_end0
      exact ⟨⟨_, rfl⟩, .inl ⟨pre, A2.out, HJ.out⟩⟩
    · have NE : Hid (bs ra ≠ [] ∨ bs rb ≠ []) := by
        rcases (show ra.size ≠ 0 ∨ rb.size ≠ 0 by omega) with h | h
        · exact .inl (fun e => h (by rw [← bs_len, e]; rfl))
        · exact .inr (fun e => h (by rw [← bs_len, e]; rfl))
      have g : (!(ra.toList == []) || !(rb.toList == [])) = true := by
        rw [tl, tl]
        rcases NE.out with h | h
        · rw [show (bs ra == []) = false by rw [beq_eq_false_iff_ne]; exact h]; rfl
        · rw [show (bs rb == []) = false by rw [beq_eq_false_iff_ne]; exact h]; simp
      have F1 := Lib.hid (fun w => firstPart_any ra w (by omega))
      have F2 := Lib.hid (fun w => firstPart_any rb w (by omega))
      obtain ⟨p, hp⟩ : ∃ p, p = ra.extract 0 (firstP (bs ra)).length := ⟨_, rfl⟩
      obtain ⟨q, hq⟩ : ∃ q, q = rb.extract 0 (firstP (bs rb)).length := ⟨_, rfl⟩
      have bp : bs p = firstP (bs ra) := by rw [hp, bs_head, ← firstP_pre]
      have bq : bs q = firstP (bs rb) := by rw [hq, bs_head, ← firstP_pre]
      rw [← hp] at F1
      rw [← hq] at F2
      have lp : p.size ≤ ra.size := by rw [hp]; simp; omega
      have lq : q.size ≤ rb.size := by rw [hq]; simp; omega
      have ST : Hid (After (bs a) (bs b) (pre ++ [(p, q)]) (bs (ra.extract p.size ra.size)) (bs (rb.extract q.size rb.size))) := by
        have := AA.out.step (x := (p, q)) NE.out bp bq
        rw [bs_tail, bs_tail, ← bs_len p, ← bs_len q, bp, bq]
        exact this
      have SP : Hid (SomeP (bs a) (bs b) (pre ++ [(p, q)])) := ⟨pre, (p, q), _, _, rfl, AA.out, NE.out, bp, bq⟩
      have dec : 1 ≤ p.size + q.size := by
        rcases NE.out with h | h
        · have := firstP_pos h; rw [← bp, bs_len] at this; omega
        · have := firstP_pos h; rw [← bq, bs_len] at this; omega
      clear hp hq bp bq h0
      cases hk : (ra.toList == []) with
      | false =>
        have k2 : ra.toList.isEmpty = false := by cases h : ra.toList with | nil => rw [h] at hk; cases hk | cons _ _ => rfl
        clear g
        gi_wp2_with fail
        refine ⟨trivial, (callsIn_wide.2 (F1.out _)).mono ?_⟩
        rintro e w' ⟨rfl, rfl⟩
        gi_wp2_with fail
        refine ⟨trivial, (callsIn_wide.2 (F2.out _)).mono ?_⟩
        rintro e w' ⟨rfl, rfl⟩
        obtain ⟨fn, tmps, assign, body, hy, hR⟩ := Y.out pre (p, q) _ HJ.out (by omega)
        dsimp only at hy
        gi_wp2
        refine hR.mono ?_
        rintro e W2 (⟨rfl, hj2, _⟩ | ⟨rfl, hj2⟩)
        · have J2 := Lib.hid hj2
          have i1 : (0 : Int) ≤ (p.size : Int) := by omega
          have i2 : (p.size : Int) ≤ (ra.size : Int) := by omega
          have i3 : (0 : Int) ≤ (q.size : Int) := by omega
          have i4 : (q.size : Int) ≤ (rb.size : Int) := by omega
          clear hj2 hR hy
          gi_wp2
          gi_quiet (fail)
          go_roundw
          case rel => (repeat apply Exists.intro); exact ⟨⟨_, _, _, rfl, rfl, ST.out, JA.out _ _ _ J2.out, by simp; omega⟩, rfl⟩
          case measure => simp [lenS]; omega
        · have J2 := Lib.hid hj2
          clear hj2 hR hy
          gi_wp2
          refine bodyPost_ret (results_none rfl _ _ _) rfl ?_
          exact ⟨⟨_, rfl⟩, .inr ⟨_, SP.out, J2.out⟩⟩
      | true =>
        have k2 : ra.toList.isEmpty = true := by cases h : ra.toList with | nil => rfl | cons _ _ => rw [h] at hk; cases hk
        have k3 : (rb.toList == []) = false := by rw [hk] at g; simpa using g
        have k4 : rb.toList.isEmpty = false := by cases h : rb.toList with | nil => rw [h] at k3; cases k3 | cons _ _ => rfl
        clear g
        gi_wp2_with fail
        refine ⟨trivial, (callsIn_wide.2 (F1.out _)).mono ?_⟩
        rintro e w' ⟨rfl, rfl⟩
        gi_wp2_with fail
        refine ⟨trivial, (callsIn_wide.2 (F2.out _)).mono ?_⟩
        rintro e w' ⟨rfl, rfl⟩
        obtain ⟨fn, tmps, assign, body, hy, hR⟩ := Y.out pre (p, q) _ HJ.out (by omega)
        dsimp only at hy
        gi_wp2
        refine hR.mono ?_
        rintro e W2 (⟨rfl, hj2, _⟩ | ⟨rfl, hj2⟩)
        · have J2 := Lib.hid hj2
          have i1 : (0 : Int) ≤ (p.size : Int) := by omega
          have i2 : (p.size : Int) ≤ (ra.size : Int) := by omega
          have i3 : (0 : Int) ≤ (q.size : Int) := by omega
          have i4 : (q.size : Int) ≤ (rb.size : Int) := by omega
          clear hj2 hR hy
          gi_wp2
          gi_quiet (fail)
          go_roundw
          case rel => (repeat apply Exists.intro); exact ⟨⟨_, _, _, rfl, rfl, ST.out, JA.out _ _ _ J2.out, by simp; omega⟩, rfl⟩
          case measure => simp [lenS]; omega
        · have J2 := Lib.hid hj2
          clear hj2 hR hy
          gi_wp2
          refine bodyPost_ret (results_none rfl _ _ _) rfl ?_
          exact ⟨⟨_, rfl⟩, .inr ⟨_, SP.out, J2.out⟩⟩

end Go.Proofs.YtbpoggdinefkeaaGreatDoor
