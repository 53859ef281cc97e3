/-
  The reference's put: a piece behind a list, or nothing, or the last piece made longer. No statement of the seat is proved here.
-/
import Derived.Test.YtcgjhbjbfdbfaaaSe
namespace Go.Proofs.Ytcgjhbjbfdbfaaa
open Go.RowKit

theorem setCells_heap (b : Nat) : ∀ (vs : List Value) (o : Nat) (w : World) (k : Nat), k ≠ b → (w.setCells b o vs).heap[k]? = w.heap[k]?
  | [], _, _, _, _ => rfl
  | v :: r, o, w, k, h => by
    rw [World.setCells, setCells_heap b r (o + 1) _ k h]
    exact Below.heap_setCell _ _ _ _ h
theorem setCells_grown (w : World) (b o : Nat) (vs : List Value) : w.grownBy (w.setCells b o vs) (some b) := by
  have h := setCells_below (Nat.zero_le b) vs o w (Below.refl 0 w)
  exact ⟨h.os, h.tape, h.output, h.size, fun k _ hk => setCells_heap b vs o w k (fun e => hk (congrArg some e))⟩
theorem grown_setCell (w : World) (b o : Nat) (v : Value) : w.grownBy (w.setCell ⟨b, o, none⟩ v) (some b) := by
  have h := (Below.refl 0 w).setCell (p := ⟨b, o, none⟩) (Nat.zero_le b) v
  exact ⟨h.os, h.tape, h.output, h.size, fun k _ hk => Below.heap_setCell _ _ _ _ (fun e => hk (congrArg some e))⟩
theorem grown_below {w w' : World} {row : Option Nat} (h : Below w.heap.size w w') : w.grownBy w' row := ⟨h.os, h.tape, h.output, h.size, fun k hk _ => h.block k hk⟩
/-- One step behind another: the row of the second is that of the first, or new. -/
theorem grown_trans {w w1 w2 : World} {b c : Nat} (h : w.grownBy w1 (some b)) (h2 : w1.grownBy w2 (some c)) (hc : c = b ∨ w.heap.size ≤ c) : w.grownBy w2 (some b) :=
  ⟨h2.os.trans h.os, h2.tape.trans h.tape, h2.output.trans h.output, Nat.le_trans h.size h2.size, fun k hk hne =>
    (h2.block k (Nat.lt_of_lt_of_le hk h.size) (fun e => by
      have e' : k = c := Option.some.inj e
      rcases hc with hc | hc
      · exact hne (by rw [e', hc])
      · omega)).trans (h.block k hk hne)⟩
theorem PcsAt.grown {w w' : World} {b : Nat} {p : Option Addr} {n : Nat} {F U V : Nat → Int} (h : PcsAt w p n F U V) (hg : w.grownBy w' (some b)) (hb : ∀ c o, p = some ⟨c, o, none⟩ → c ≠ b) : PcsAt w' p n F U V := by
  rcases h with h | ⟨c, o, hp, h⟩
  · exact Or.inl h
  · have hne : some c ≠ some b := fun e => hb c o hp (Option.some.inj e)
    exact Or.inr ⟨c, o, hp, fun i hi => ⟨hg.cell (h i hi).1 hne, hg.cell (h i hi).2.1 hne, hg.cell (h i hi).2.2 hne⟩⟩

theorem run_append_row (b n cap : Nat) (w : World) (F U V : Nat → Int) (hR : Row 0 w b n cap F U V) (hn : (n : Int) ≤ 1048576) (c sc : Nat) (f u v : Int) (hP : Pc w c 0 f u v) (ty : TypeId) :
    ∃ b2 cap2 w', (Builtin.append_ #[22, 22] ty #[.slice (some ⟨b, 0, none⟩) n cap, .slice (some ⟨c, 0, none⟩) 1 sc]).run Try.prog w = .ok (.slice (some ⟨b2, 0, none⟩) (n + 1) cap2) w' ∧
      Row 0 w' b2 (n + 1) cap2 (upd F n f) (upd U n u) (upd V n v) ∧ w.grownBy w' (some b) ∧ (b2 = b ∨ w.heap.size ≤ b2) := by
  obtain ⟨i0, hi, hz0, hz1, hz2⟩ := info_parts info47
  obtain ⟨N, vs, hH, h1, h2, h3, _⟩ := hR
  have hnews : ∀ j u', (cellsOf (one3 f u v) 0 3)[j]? = some u' → w.cell? ((⟨c, 0, none⟩ : Addr).add j) = some u' := fun j u' hu => by
    obtain ⟨hj, rfl⟩ := cellsOf_some hu
    rw [Addr.add_lit]
    exact one3_cell hP hj
  have hone : ∀ j, j < 3 → (cellsOf (one3 f u v) 0 3)[j]? = some (one3 f u v j) := fun j hj => by rw [cellsOf_get _ _ hj, Nat.zero_add]
  by_cases hr : n + 1 ≤ cap
  · refine ⟨b, cap, _, run_append_room3 w 22 ty 47 i0 Try.underlying22 hi hz1 b N vs hH n cap c 0 sc (one3 f u v) (fun j hj => one3_cell hP hj) (fun j _ => one3_one _ _ _ _) hr (by omega), ⟨N, _, hH.laid (one3 f u v) (n * 3) 0 3 (by omega), hr, h2, ?_, Nat.zero_le _⟩, setCells_grown _ _ _ _, Or.inl rfl⟩
    refine snoc_lies h3 (fun q hq => ?_) (fun j hj => ?_)
    · rw [laid, if_neg (by omega)]
    · rw [laid, if_pos (by omega), show 0 + (n * 3 + j - n * 3) = j by omega]
  · have holds : ∀ j u', (cellsOf vs 0 (n * 3))[j]? = some u' → w.cell? ((⟨b, 0, none⟩ : Addr).add j) = some u' := fun j u' hu => by
      obtain ⟨hj, rfl⟩ := cellsOf_some hu
      rw [Addr.add_lit]
      exact hH.cell _ (by omega)
    have hcap : Builtin.nextslicecap (n + 1) cap * i0.bytes ≤ 281474976710656 := by
      have := nextslicecap_le (need := n + 1) (old := cap) (by omega)
      rw [hz2]
      omega
    refine ⟨w.heap.size, _, _, run_append_grow w 22 ty 47 i0 _ Try.underlying22 hi hz0 ⟨b, 0, none⟩ n cap (cellsOf vs 0 (n * 3)) (by rw [cellsOf_len, hz1]) holds ⟨c, 0, none⟩ 1 sc (cellsOf (one3 f u v) 0 3) (by rw [cellsOf_len, hz1]) hnews (by omega) (by omega) hcap,
      ⟨_, _, HoldsN.newA w.drew _ 47, grownCap_ge _ _ _ _, ?_, ?_, Nat.zero_le _⟩, grown_below (((Below.refl _ w).drew).alloc (Nat.le_refl _) _), Or.inr (Nat.le_refl _)⟩
    · have g := grownCap_ge w (n + 1) cap 47
      rw [Array.size_append, Array.size_append, size_zeroCells]
      simp only [List.size_toArray, cellsOf_len, Value.cells, List.length_cons, List.length_nil]
      omega
    · refine snoc_lies h3 (fun q hq => ?_) (fun j hj => ?_)
      · show ((_ : Option Value).getD undef) = _
        rw [Array.getElem?_append_left (by simp only [Array.size_append, List.size_toArray, cellsOf_len]; omega), Array.getElem?_append_left (by simp only [List.size_toArray, cellsOf_len]; omega), List.getElem?_toArray, cellsOf_get _ _ hq, Nat.zero_add]
        rfl
      · show ((_ : Option Value).getD undef) = _
        rw [Array.getElem?_append_left (by simp only [Array.size_append, List.size_toArray, cellsOf_len]; omega), Array.getElem?_append_right (by simp only [List.size_toArray, cellsOf_len]; omega), List.getElem?_toArray, List.size_toArray, cellsOf_len, show n * 3 + j - n * 3 = j by omega, hone j hj]
        rfl

/-- The law at the operation. -/
theorem wpList_append_row {ops : Array Oper} {rest : List Oper} {o : Oper} {a : Act} {Q : Exit → Act → World → Prop} (hgd : o.guard = none) (s x : Operand)
    (ho : o.op = .call { callee := .builtin .append, args := #[s, x], argTypes := #[22, 22] }) (b n cap : Nat) (w : World) (F U V : Nat → Int) (hs : a.eval s = .slice (some ⟨b, 0, none⟩) n cap) (hR : Row 0 w b n cap F U V) (hn : (n : Int) ≤ 1048576)
    (c sc : Nat) (f u v : Int) (hx : a.eval x = .slice (some ⟨c, 0, none⟩) 1 sc) (hP : Pc w c 0 f u v)
    (h : ∀ b2 cap2 w', Row 0 w' b2 (n + 1) cap2 (upd F n f) (upd U n u) (upd V n v) → w.grownBy w' (some b) → (b2 = b ∨ w.heap.size ≤ b2) → wpList Try.prog ops Q rest (a.put o.dst (.slice (some ⟨b2, 0, none⟩) (n + 1) cap2)) w') : wpList Try.prog ops Q (o :: rest) a w := by
  obtain ⟨b2, cap2, w', hr, h1, h2, h3⟩ := run_append_row b n cap w F U V hR hn c sc f u v hP o.type
  exact Lib.wpList_append_run w hgd s x 22 22 ho _ _ hs hx _ _ hr (h b2 cap2 w' h1 h2 h3)

/-- What put answers: a list with one piece more behind it, or nothing more. -/
def Put (b n : Nat) (F U V : Nat → Int) (f u v : Int) (w : World) (r : Value) (w' : World) : Prop :=
  ∃ b2 n2 cap2 F2 U2 V2, r = .slice (some ⟨b2, 0, none⟩) n2 cap2 ∧ Row 0 w' b2 n2 cap2 F2 U2 V2 ∧ w.grownBy w' (some b) ∧ (b2 = b ∨ w.heap.size ≤ b2) ∧ Tl n2 F2 U2 V2 ∧ n2 ≤ n + 1 ∧
    (∀ d x, Has n2 F2 U2 V2 d x ↔ Has n F U V d x ∨ (f ≤ d ∧ d < u ∧ v = x)) ∧ ∀ y, (∀ i, i < n → U i ≤ y) → (f < u → u ≤ y) → ∀ i, i < n2 → U2 i ≤ y
theorem put_app {b n b2 cap2 : Nat} {F U V : Nat → Int} {f u v : Int} {w w' : World} (hT : Tl n F U V) (hs : spn f u) (hl : ∀ i, i < n → U i ≤ f) (hc : ¬ (0 < n ∧ U (n - 1) = f ∧ V (n - 1) = v))
    (hR : Row 0 w' b2 (n + 1) cap2 (upd F n f) (upd U n u) (upd V n v)) (hg : w.grownBy w' (some b)) (hb : b2 = b ∨ w.heap.size ≤ b2) : Put b n F U V f u v w (.slice (some ⟨b2, 0, none⟩) (n + 1) cap2) w' := by
  have h := hT.snoc hs hl hc
  exact ⟨b2, n + 1, cap2, _, _, _, rfl, hR, hg, hb, h.1, Nat.le_refl _, h.2.1, fun y _ h2 i hi => Int.le_trans (h.2.2 i hi) (h2 hs.2.1)⟩

set_option maxRecDepth 100000 in
set_option maxHeartbeats 4000000 in
theorem put_any (b n cap : Nat) (F U V : Nat → Int) (f u v : Int) (w : World) (hR : Row 0 w b n cap F U V) (hn : (n : Int) ≤ 2000) (hT : Tl n F U V) (hs : f < u → spn f u) (hl : f < u → ∀ i, i < n → U i ≤ f) :
    Calls Try.prog 43 #[.slice (some ⟨b, 0, none⟩) n cap, .agg #[.int .i64 f, .int .i64 u, .int .i64 v]] w fun e w' => ∃ r, e = .returned r ∧ Put b n F U V f u v w r w' := by
  have X0 := Lib.hid (Pc.new w f u v 47)
  have R0 := Lib.hid (hR.next ((Below.refl _ _).alloc (Nat.le_refl _) (.cells #[.int .i64 f, .int .i64 u, .int .i64 v] 47)))
  have zbw := hR.lt.1
  have G0 : Hid (w.grownBy (w.alloc (.cells #[.int .i64 f, .int .i64 u, .int .i64 v] 47)) (some b)) := grown_below ((Below.refl _ _).alloc (Nat.le_refl _) _)
  have HT := Lib.hid hT
  have x0 := X0.out.1; have x1 := X0.out.2.1; have x2 := X0.out.2.2
  simp only [Nat.zero_add] at x1 x2
  clear hR hT
  by_cases hfu : f < u
  case neg =>
    have e1 : decide (u ≤ f) = true := decide_eq_true (by omega)
    have HF := Lib.hid hfu
    clear hs hl hfu
    go_enter Try.func43, Try.ntmps43
    go_wp2_with fail
    go_ret
    refine ⟨_, rfl, b, n, cap, F, U, V, rfl, R0.out, G0.out, Or.inl rfl, HT.out, by omega, fun d x => ⟨Or.inl, fun h => ?_⟩, fun y h1 _ => h1⟩
    rcases h with h | h
    · exact h
    · exact absurd (show f < u by omega) (by have := HF.out; omega)
  have e1 : decide (u ≤ f) = false := decide_eq_false (by omega)
  have SP := Lib.hid (hs hfu); have HL := Lib.hid (hl hfu)
  clear hs hl
  have hX9 := Lib.hid (fun nq => pc_two w (.cells #[.int .i64 f, .int .i64 u, .int .i64 v] 47) nq f u v)
  rcases Nat.eq_zero_or_pos n with h0 | h0
  · subst h0
    go_enter Try.func43, Try.ntmps43
    go_wp2_with fail
    go_quiet (fail)
    have RX := Lib.hid (Row.next (show Row 0 ((w.alloc (.cells #[.int .i64 f, .int .i64 u, .int .i64 v] 47)).drewN nq) b 0 cap F U V from R0.out) ((Below.refl _ _).alloc (Nat.le_refl _) (.cells #[.int .i64 f, .int .i64 u, .int .i64 v] 47)))
    have PX := Lib.hid (hX9.out nq)
    have GX : Hid (w.grownBy (((w.alloc (.cells #[.int .i64 f, .int .i64 u, .int .i64 v] 47)).drewN nq).alloc (.cells #[.int .i64 f, .int .i64 u, .int .i64 v] 47)) (some b)) := grown_below (below_two _ _ _ _)
    go_wp2_with (at_builtin; refine wpList_append_row rfl (.tmp 50) (.tmp 52) rfl b 0 cap _ F U V rfl RX.out (by omega) (w.heap.size + 1) 1 f u v rfl PX.out ?_; intro b2 cap2 w3 hR3 hG3 hb3)
    go_ret
    exact ⟨_, rfl, put_app HT.out SP.out HL.out (by omega) hR3 (grown_trans GX.out hG3 (Or.inl rfl)) (by rcases hb3 with h | h; exact Or.inl h; exact Or.inr (Nat.le_trans GX.out.size h))⟩
  · obtain ⟨N, vs, q1, q2, q3, q4, q5⟩ := R0.out
    have PL := Lib.hid (q1.pc (o := (n - 1) * 3) (by omega) (q4 (n - 1) (by omega)))
    have p1 := PL.out.2.1; have p2 := PL.out.2.2
    have zp := PL.out.lt
    have H0 := Lib.hid q1; have L0 := Lib.hid q4
    clear q1 q4
    have hk1 : (0 : Int) ≤ (n : Int) - 1 := by omega
    have hk2 : (n : Int) - 1 < (n : Int) := by omega
    have hk3 : ((n : Int) - 1).toNat = n - 1 := by omega
    have hk4 : IntKind.i64.wrap ((n : Int) - 1) = (n : Int) - 1 := IntWalk.i64_in _ (by omega)
    have hk5 : (1 : Int) ≤ (n : Int) := by omega
    by_cases hU : U (n - 1) = f
    · have HU := Lib.hid hU
      have d1 : (U (n - 1) == f) = true := bool_eq hU
      by_cases hV : V (n - 1) = v
      · have HV := Lib.hid hV
        have d2 : (V (n - 1) == v) = true := bool_eq hV
        clear hU hV
        go_enter Try.func43, Try.ntmps43
        go_wp2_with fail
        go_quiet (fail)
        have t1 := H0.out.cell ((n - 1) * 3 + 1) (by omega)
        have f1 := H0.out.frozen ((n - 1) * 3 + 1) (by omega)
        have RX : Hid (Row 0 (((w.alloc (.cells #[.int .i64 f, .int .i64 u, .int .i64 v] 47)).drewN nq).setCell ⟨b, (n - 1) * 3 + 1, none⟩ (.int .i64 u)) b n cap F (upd U (n - 1) u) V) := ⟨N, _, (show HoldsN N ((w.alloc (.cells #[.int .i64 f, .int .i64 u, .int .i64 v] 47)).drewN nq) b vs from H0.out).put _ (by omega) _, q2, q3, long_lies L0.out h0, Nat.zero_le _⟩
        have GX : Hid (w.grownBy (((w.alloc (.cells #[.int .i64 f, .int .i64 u, .int .i64 v] 47)).drewN nq).setCell ⟨b, (n - 1) * 3 + 1, none⟩ (.int .i64 u)) (some b)) := grown_trans (grown_below (below_drewN ((Below.refl _ _).alloc (Nat.le_refl _) _) nq)) (grown_setCell _ _ _ _) (Or.inl rfl)
        clear p1 p2
        go_wp2_with fail
        go_ret
        have h := HT.out.grow SP.out h0 HU.out HV.out
        exact ⟨_, rfl, b, n, cap, _, _, _, rfl, RX.out, GX.out, Or.inl rfl, h.1, by omega, h.2.1, fun y _ h2 i hi => Int.le_trans (h.2.2 i hi) (h2 SP.out.2.1)⟩
      · have HV := Lib.hid hV
        have d2 : (V (n - 1) == v) = false := bool_ne hV
        clear hU hV
        go_enter Try.func43, Try.ntmps43
        go_wp2_with fail
        go_quiet (fail)
        have RX := Lib.hid (Row.next (show Row 0 ((w.alloc (.cells #[.int .i64 f, .int .i64 u, .int .i64 v] 47)).drewN nq) b n cap F U V from R0.out) ((Below.refl _ _).alloc (Nat.le_refl _) (.cells #[.int .i64 f, .int .i64 u, .int .i64 v] 47)))
        have PX := Lib.hid (hX9.out nq)
        have GX : Hid (w.grownBy (((w.alloc (.cells #[.int .i64 f, .int .i64 u, .int .i64 v] 47)).drewN nq).alloc (.cells #[.int .i64 f, .int .i64 u, .int .i64 v] 47)) (some b)) := grown_below (below_two _ _ _ _)
        go_wp2_with (at_builtin; refine wpList_append_row rfl (.tmp 50) (.tmp 52) rfl b n cap _ F U V rfl RX.out (by omega) (w.heap.size + 1) 1 f u v rfl PX.out ?_; intro b2 cap2 w3 hR3 hG3 hb3)
        go_ret
        exact ⟨_, rfl, put_app HT.out SP.out HL.out (fun g => HV.out g.2.2) hR3 (grown_trans GX.out hG3 (Or.inl rfl)) (by rcases hb3 with h | h; exact Or.inl h; exact Or.inr (Nat.le_trans GX.out.size h))⟩
    · have HU := Lib.hid hU
      have d1 : (U (n - 1) == f) = false := bool_ne hU
      clear hU
      go_enter Try.func43, Try.ntmps43
      go_wp2_with fail
      go_quiet (fail)
      have RX := Lib.hid (Row.next (show Row 0 ((w.alloc (.cells #[.int .i64 f, .int .i64 u, .int .i64 v] 47)).drewN nq) b n cap F U V from R0.out) ((Below.refl _ _).alloc (Nat.le_refl _) (.cells #[.int .i64 f, .int .i64 u, .int .i64 v] 47)))
      have PX := Lib.hid (hX9.out nq)
      have GX : Hid (w.grownBy (((w.alloc (.cells #[.int .i64 f, .int .i64 u, .int .i64 v] 47)).drewN nq).alloc (.cells #[.int .i64 f, .int .i64 u, .int .i64 v] 47)) (some b)) := grown_below (below_two _ _ _ _)
      go_wp2_with (at_builtin; refine wpList_append_row rfl (.tmp 50) (.tmp 52) rfl b n cap _ F U V rfl RX.out (by omega) (w.heap.size + 1) 1 f u v rfl PX.out ?_; intro b2 cap2 w3 hR3 hG3 hb3)
      go_ret
      exact ⟨_, rfl, put_app HT.out SP.out HL.out (fun g => HU.out g.2.1) hR3 (grown_trans GX.out hG3 (Or.inl rfl)) (by rcases hb3 with h | h; exact Or.inl h; exact Or.inr (Nat.le_trans GX.out.size h))⟩

end Go.Proofs.Ytcgjhbjbfdbfaaa
