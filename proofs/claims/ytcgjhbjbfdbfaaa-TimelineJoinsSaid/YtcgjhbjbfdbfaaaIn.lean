/-
  slices.Insert of one piece into a list of pieces. No statement of the seat is proved here.
-/
import Derived.Test.YtcgjhbjbfdbfaaaPu
import Derived.Lib.Overlaps
import Derived.Laws.Externs
import Derived.Deep.RegionLaw
namespace Go.Proofs.Ytcgjhbjbfdbfaaa
open Go.RowKit

section
variable {P : Program}
theorem wp_copies (w : World) {o : Oper} {a : Act} {K : Act → World → Prop} {Q : Exit → Act → World → Prop} {d s : Operand} {t u : TypeId} (ho : o.op = .call { callee := .builtin .copy, args := #[d, s], argTypes := #[t, u] })
    {x y : Value} (hd : a.eval d = x) (hs : a.eval s = y) {r : Value} {w' : World} (hr : (Builtin.copy_ #[t, u] o.type #[x, y]).run P w = .ok r w') (h : K (a.put o.dst r) w') : o.wp P a w K Q := by
  subst hd hs
  unfold Oper.wp execOp
  simp only [ho, resolve, invoke, builtin, Sem.run_bind, Sem.run_pure, Result.andThen_ok, List.map_toArray, List.map_cons, List.map_nil, hr]
  exact h
theorem wpList_copies (w : World) {ops : Array Oper} {rest : List Oper} {o : Oper} {a : Act} {Q : Exit → Act → World → Prop} (hgd : o.guard = none) (d s : Operand) (t u : TypeId) (ho : o.op = .call { callee := .builtin .copy, args := #[d, s], argTypes := #[t, u] })
    {x y : Value} (hd : a.eval d = x) (hs : a.eval s = y) {r : Value} {w' : World} (hr : (Builtin.copy_ #[t, u] o.type #[x, y]).run P w = .ok r w') (h : wpList P ops Q rest (a.put o.dst r) w') : wpList P ops Q (o :: rest) a w :=
  wpList_plain hgd fun _ k => wp_copies w ho hd hs hr (k _ _ h)
theorem step_copies {ops : Array Oper} {o : Oper} {a : Act} {w : World} {K : Act → World → Prop} {Q : Exit → Act → World → Prop} {E : Prop} (hgd : o.guard = none) (d s : Operand) (t u : TypeId) (ho : o.op = .call { callee := .builtin .copy, args := #[d, s], argTypes := #[t, u] })
    (x y : Value) (hd : a.eval d = x) (hs : a.eval s = y) {r : Value} {w' : World} (hr : (Builtin.copy_ #[t, u] o.type #[x, y]).run P w = .ok r w') (h : K (a.put o.dst r) w') : if Region.wanted o (yielded ops a.tmps) = true then Oper.wp P o a w K Q else E := by
  rw [if_pos (show Region.wanted o (yielded ops a.tmps) = true by simp [Region.wanted, hgd])]
  exact wp_copies w ho hd hs hr h
end

theorem size47 : (Try.prog.info? 47).map (·.size) = some 3 := by kernel_rfl
theorem sizeOf47 (w : World) : (Go.sizeOf 47).run Try.prog w = .ok 3 w := by
  obtain ⟨i0, hi, _, hz1, _⟩ := info_parts info47
  simp [sizeOf, typeInfo, hi, hz1]

set_option maxRecDepth 100000 in
set_option maxHeartbeats 4000000 in
theorem Insert_end (b N n cap g : Nat) (F U V : Nat → Int) (f u v : Int) (vs : Nat → Value) (w : World) (hH : HoldsN N w b vs) (hnc : n ≤ cap) (hN : cap * 3 ≤ N) (hl : lies vs n F U V) (hn : (n : Int) ≤ 2000) (hg : Pc w g 0 f u v) :
    Calls Try.prog 38 #[.slice (some ⟨b, 0, none⟩) n cap, .int .i64 n, .slice (some ⟨g, 0, none⟩) 1 1] w (Inserted b n n F U V f u v w) := by
  have zb := hH.1
  have HL : Hid (LsAt b w (some ⟨b, 0, none⟩) n cap F U V) := Or.inr ⟨b, N, vs, rfl, hH, hnc, hN, hl, Nat.le_refl _⟩
  have HG := Lib.hid hg
  clear hH hl hg
  have hzb : b ≤ w.heap.size := by omega
  have hnb : (n : Int) ≤ 1048576 := by omega
  go_enter Try.func38, Try.ntmps38
  go_wp2_with (first | (at_builtin; refine wpList_append_piece rfl (.tmp 23) (.tmp 24) rfl b n cap _ _ F U V rfl HL.out hnb g 1 f u v rfl HG.out hzb ?_; intro p2 cap2 w' hL2 hb2) | fail)
  all_goals
    rcases hL2 with ⟨_, hL2, _⟩ | ⟨b2, N2, vs2, rfl, hH2, h1, h2, h3, h4⟩
    · omega
    go_ret
    refine ⟨b2, N2, cap2, vs2, rfl, hH2, h1, h2, fun i hi => ?_, h4, hb2⟩
    have g := h3 i hi
    rcases (show i < n ∨ i = n by omega) with k | k
    · rw [ins_lt k, ins_lt k, ins_lt k]
      rw [upd_ne (by omega), upd_ne (by omega), upd_ne (by omega)] at g
      exact g
    · subst k
      rw [ins_same, ins_same, ins_same]
      rw [upd_same, upd_same, upd_same] at g
      exact g

set_option maxRecDepth 100000 in
set_option maxHeartbeats 4000000 in
theorem Insert_room (b N n cap g m : Nat) (F U V : Nat → Int) (f u v : Int) (vs : Nat → Value) (w : World) (hH : HoldsN N w b vs) (hnc : n + 1 ≤ cap) (hN : cap * 3 ≤ N) (hl : lies vs n F U V) (hn : (n : Int) ≤ 2000) (hm : m < n)
    (hg : w.heap[g]? = some (.cells #[.int .i64 f, .int .i64 u, .int .i64 v] 47 (0, 0))) (hbg : b ≠ g) :
    Calls Try.prog 38 #[.slice (some ⟨b, 0, none⟩) n cap, .int .i64 m, .slice (some ⟨g, 0, none⟩) 1 1] w (Inserted b n m F U V f u v w) := by
  have hP : Pc w g 0 f u v := by
    refine ⟨?_, ?_, ?_⟩ <;> simp [World.cell?, hg]
  have hov : ∀ lb cb, (callFunc 47 #[.slice (some ⟨g, 0, none⟩) 1 1, .slice (some ⟨b, (m + 1) * 3, none⟩) lb cb]).run Try.prog w = .ok (.value (.bool false)) w := fun lb cb => by
    obtain ⟨tB, kB, hsb, hkB⟩ := shape_of_cell (hH.cell 0 (by omega))
    rw [run_callFunc_extern Try.func47 (by kernel_rfl) (by kernel_rfl) (by kernel_rfl) (e := Extern.SlicesOverlaps.overlaps #[22, 22] #[4]) (by kernel_rfl),
      Lib.run_overlaps_apart w 22 4 47 Try.underlying22 3 sizeOf47 ⟨g, 0, none⟩ ⟨b, (m + 1) * 3, none⟩ 1 1 lb cb (fun e => hbg e.symm) 47 tB 3 kB (by simp [World.shape?, hg]) hsb hkB (by simp [World.frozen?, hg]) (by simp [World.frozen?, hg])]
    rfl
  obtain ⟨W1, hW1⟩ : ∃ W1, W1 = w.drew.setCells b ((m + 1) * 3) (cellsOf vs (m * 3) ((n - m) * 3)) := ⟨_, rfl⟩
  have H1 := Lib.hid ((show HoldsN N w.drew b vs from hH).laid vs ((m + 1) * 3) (m * 3) ((n - m) * 3) (by omega))
  rw [← hW1] at H1
  have hP1 : Pc W1 g 0 f u v := by
    rw [hW1]
    refine ⟨?_, ?_, ?_⟩ <;> rw [World.cell?_setCells_out b _ _ _ _ (fun h _ => absurd h.symm hbg)]
    · exact hP.1
    · exact hP.2.1
    · exact hP.2.2
  have hcp1 : ∀ ty dn dc sn sc, n - m = Nat.min sn dn → (Builtin.copy_ #[22, 22] ty #[.slice (some ⟨b, (m + 1) * 3, none⟩) dn dc, .slice (some ⟨b, m * 3, none⟩) sn sc]).run Try.prog w.drew = .ok (goInt (n - m : Nat)) W1 := fun ty dn dc sn sc hmin => by
    rw [hW1]
    exact run_copy3 w.drew 22 22 47 Try.underlying22 size47 b N vs hH ((m + 1) * 3) (m * 3) _ dc _ sc (n - m) _ vs hmin (fun _ => ⟨b, m * 3, rfl, fun j hj => hH.cell _ (by omega)⟩) (fun j hj => lies_one hl (by omega)) (by omega) ty
  have hcp2 : ∀ ty dn dc, 1 ≤ dn → (Builtin.copy_ #[22, 22] ty #[.slice (some ⟨b, m * 3, none⟩) dn dc, .slice (some ⟨g, 0, none⟩) 1 1]).run Try.prog W1 = .ok (goInt (1 : Nat)) (W1.setCells b (m * 3) (cellsOf (one3 f u v) 0 (1 * 3))) := fun ty dn dc hd1 =>
    run_copy3 W1 22 22 47 Try.underlying22 size47 b N _ H1.out (m * 3) 0 _ dc _ 1 1 _ (one3 f u v) (by simp only [Nat.min_def]; split <;> omega) (fun _ => ⟨g, 0, rfl, fun j hj => one3_cell hP1 (by omega)⟩) (fun j _ => one3_one _ _ _ _) (by omega) ty
  have hw1 : IntKind.i64.wrap ((n : Int) + 1) = (n : Int) + 1 := by rw [IntKind.wrap_i64]; omega
  have hw2 : IntKind.i64.wrap ((m : Int) + 1) = (m : Int) + 1 := by rw [IntKind.wrap_i64]; omega
  have B1 : Hid (Below b w W1) := by
    show Below b w W1
    rw [hW1]
    exact setCells_below (Nat.le_refl _) _ _ _ (below_drewN (Below.refl b w) 1)
  have HL := Lib.hid hl
  have hz2 : ¬ ((m : Int) = (n : Int)) := by omega
  have hb2 : ¬ (cap = m + 1) := by omega
  have hb4 : ¬ (cap = m) := by omega
  have hb3 : (n : Int) + 1 ≤ (cap : Int) := by omega
  have hin : m ≤ n := by omega
  have hb1 : (0 : Int) ≤ (m : Int) + 1 := by omega
  have hb5 : (m : Int) ≤ (n : Int) + 1 := by omega
  have hmin : Hid (n - m = Nat.min (n + 1 - m) (n - m)) := by show n - m = Nat.min (n + 1 - m) (n - m); simp only [Nat.min_def]; split <;> omega
  have hcp := fun ty => hcp2 ty (n + 1 - m) (cap - m) (by omega)
  clear hcp2
  clear hH hl hg hP hP1 hW1
  go_enter Try.func38, Try.ntmps38
  go_wp2_with (simp only [hov])
  go_region_law (refine step_copies rfl _ _ 22 22 rfl (.slice (some ⟨b, (m + 1) * 3, none⟩) (n - m) (cap - (m + 1))) (.slice (some ⟨b, m * 3, none⟩) (n + 1 - m) (cap - m)) (by simp [Act.eval, Act.put]) (by simp [Act.eval, Act.put]) (hcp1 3 (n - m) (cap - (m + 1)) (n + 1 - m) (cap - m) hmin.out) ?_)
  go_wp2
  go_ret
  refine ⟨b, N, cap, _, rfl, H1.out.laid _ _ _ _ (by omega), hnc, hN, ?_, Nat.le_refl _, setCells_below (Nat.le_refl _) _ _ _ B1.out⟩
  refine moved_lies HL.out hin (fun q hq => ?_) (fun q h1 h2 => ?_) (fun j hj => ?_)
  · rw [laid, if_neg (by omega), laid, if_neg (by omega)]
  · rw [laid, if_neg (by omega), laid, if_pos (by omega), show m * 3 + (q + 3 - (m + 1) * 3) = q by omega]
  · rw [laid, if_pos (by omega), show 0 + (m * 3 + j - m * 3) = j by omega]

/-- append(s[:m], make(..)...) where it must grow. -/
theorem run_zeros_piece (b N cap m k : Nat) (vs : Nat → Value) (w : World) (hH : HoldsN N w b vs) (hN : cap * 3 ≤ N) (hnc : m ≤ cap) (hk : 0 < k) (hg : cap < m + k) (hmk : ((m + k : Nat) : Int) ≤ 1048576) :
    ∃ G N2 ys w1, (∀ ty, (Builtin.append_ #[22, 3] ty #[.slice (some ⟨b, 0, none⟩) m cap, .int .i64 (k : Int)]).run Try.prog w = .ok (.slice (some ⟨w.heap.size, 0, none⟩) (m + k) G) w1) ∧
      HoldsN N2 w1 w.heap.size ys ∧ m + k ≤ G ∧ G * 3 ≤ N2 ∧ (∀ q, q < m * 3 → ys q = vs q) ∧ Below w.heap.size w w1 ∧ (G : Int) ≤ 9223372036854775807 := by
  obtain ⟨i0, hi, hz0, hz1, hz2⟩ := info_parts info47
  have holds : ∀ j u', (cellsOf vs 0 (m * 3))[j]? = some u' → w.cell? ((⟨b, 0, none⟩ : Addr).add j) = some u' := fun j u' hu => by
    obtain ⟨hj, rfl⟩ := cellsOf_some hu
    rw [Addr.add_lit]
    exact hH.cell _ (by omega)
  refine ⟨grownCap w (m + k) cap 47, _, _, _, fun ty => run_append_zeros_grow w 22 3 ty 47 i0 _ .i64 .i64 Try.underlying22 Try.underlying3 hi hz0 ⟨b, 0, none⟩ m cap (cellsOf vs 0 (m * 3)) (by rw [cellsOf_len, hz1]) holds k hk (by rw [hz1]; omega) hg (by omega) (by rw [hz2]; omega), HoldsN.newA w.drew _ 47, grownCap_ge _ _ _ _, ?_, fun q hq => ?_, ((Below.refl _ w).drew).alloc (Nat.le_refl _) _, ?_⟩
  · have g := grownCap_ge w (m + k) cap 47
    rw [Array.size_append, Array.size_append, size_zeroCells, size_zeroCells]
    simp only [List.size_toArray, cellsOf_len, Value.cells, List.length_cons, List.length_nil]
    omega
  · show ((_ : Option Value).getD undef) = _
    rw [Array.getElem?_append_left (by simp only [Array.size_append, List.size_toArray, cellsOf_len]; omega), Array.getElem?_append_left (by simp only [List.size_toArray, cellsOf_len]; omega), List.getElem?_toArray, cellsOf_get _ _ hq, Nat.zero_add]
    rfl
  · have := grownCap_le_maxLen w (m + k) cap 47 (by unfold maxLen; omega)
    unfold maxLen at this
    omega

set_option maxRecDepth 100000 in
set_option maxHeartbeats 4000000 in
theorem Insert_grow (b N n cap g m : Nat) (F U V : Nat → Int) (f u v : Int) (vs : Nat → Value) (w : World) (hH : HoldsN N w b vs) (hnc : n ≤ cap) (hfull : cap < n + 1) (hN : cap * 3 ≤ N) (hl : lies vs n F U V) (hn : (n : Int) ≤ 2000) (hm : m < n)
    (hP : Pc w g 0 f u v) :
    Calls Try.prog 38 #[.slice (some ⟨b, 0, none⟩) n cap, .int .i64 m, .slice (some ⟨g, 0, none⟩) 1 1] w (Inserted b n m F U V f u v w) := by
  have zb := hH.1
  have zg := hP.lt
  obtain ⟨G, N2, ys, w1, hr, hY, hG, hGN, hys, hb1, hG63⟩ := run_zeros_piece b N cap m (n + 1 - m) vs w hH hN (by omega) (by omega) (by omega) (by omega)
  have hkk : ((n + 1 - m : Nat) : Int) = (n : Int) + 1 - (m : Int) := by omega
  rw [hkk, show m + (n + 1 - m) = n + 1 by omega] at hr
  rw [show m + (n + 1 - m) = n + 1 by omega] at hG
  have hH1 : HoldsN N w1 b vs := hH.next hb1
  have hP1 : Pc w1 g 0 f u v := hP.next hb1
  have hbN : w.heap.size ≠ b := by omega
  obtain ⟨W1, hW1⟩ : ∃ W1, W1 = w1.setCells w.heap.size (m * 3) (cellsOf (one3 f u v) 0 (1 * 3)) := ⟨_, rfl⟩
  have Y1 := Lib.hid (hY.laid (one3 f u v) (m * 3) 0 (1 * 3) (by omega))
  rw [← hW1] at Y1
  have hcp1 : ∀ ty dn dc, 1 ≤ dn → (Builtin.copy_ #[22, 22] ty #[.slice (some ⟨w.heap.size, m * 3, none⟩) dn dc, .slice (some ⟨g, 0, none⟩) 1 1]).run Try.prog w1 = .ok (goInt (1 : Nat)) W1 := fun ty dn dc hd1 => by
    rw [hW1]
    exact run_copy3 w1 22 22 47 Try.underlying22 size47 w.heap.size N2 _ hY (m * 3) 0 _ dc _ 1 1 _ (one3 f u v) (by simp only [Nat.min_def]; split <;> omega) (fun _ => ⟨g, 0, rfl, fun j hj => one3_cell hP1 (by omega)⟩) (fun j _ => one3_one _ _ _ _) (by omega) ty
  have hc1 : ∀ q, q < n * 3 → W1.drew.cell? ⟨b, 0 + q, none⟩ = some (vs (0 + q)) := fun q hq => by
    show W1.cell? _ = _
    rw [hW1, World.cell?_setCells_out w.heap.size _ _ _ _ (fun h _ => absurd h.symm hbN), Nat.zero_add]
    exact hH1.cell _ (by omega)
  have hcp2 : ∀ ty dn dc sn sc, n - m = Nat.min sn dn → (Builtin.copy_ #[22, 22] ty #[.slice (some ⟨w.heap.size, (m + 1) * 3, none⟩) dn dc, .slice (some ⟨b, m * 3, none⟩) sn sc]).run Try.prog W1.drew = .ok (goInt (n - m : Nat)) (W1.drew.setCells w.heap.size ((m + 1) * 3) (cellsOf vs (m * 3) ((n - m) * 3))) := fun ty dn dc sn sc hmin =>
    run_copy3 W1.drew 22 22 47 Try.underlying22 size47 w.heap.size N2 _ (show HoldsN N2 W1.drew w.heap.size _ from Y1.out) ((m + 1) * 3) (m * 3) _ dc _ sc (n - m) _ vs hmin
      (fun _ => ⟨b, m * 3, rfl, fun j hj => by have := hc1 (m * 3 + j) (by omega); rwa [Nat.zero_add] at this⟩) (fun j hj => lies_one hl (by omega)) (by omega) ty
  have hw1 : IntKind.i64.wrap ((n : Int) + 1) = (n : Int) + 1 := by rw [IntKind.wrap_i64]; omega
  have hw2 : IntKind.i64.wrap ((m : Int) + 1) = (m : Int) + 1 := by rw [IntKind.wrap_i64]; omega
  have hw3 : IntKind.i64.wrap ((n : Int) + 1 - (m : Int)) = (n : Int) + 1 - (m : Int) := by rw [IntKind.wrap_i64]; omega
  have B1 : Hid (Below b w W1) := by
    show Below b w W1
    rw [hW1]
    exact setCells_below (by omega) _ _ _ (hb1.mono (by omega))
  have HL := Lib.hid hl; have HY := Lib.hid hys
  have hz2 : ¬ ((m : Int) = (n : Int)) := by omega
  have hz3 : (cap : Int) < (n : Int) + 1 := by omega
  have hb4 : ¬ (cap = m) := by omega
  have hb6 : ¬ (G = m) := by omega
  have hb7 : ¬ (G = m + 1) := by omega
  have hin : m ≤ n := by omega
  have hb8 : (0 : Int) ≤ (m : Int) + 1 := by omega
  have hb5 : (m : Int) ≤ (n : Int) + 1 := by omega
  have hb9 : (m : Int) ≤ (cap : Int) := by omega
  have hb10 : (m : Int) ≤ (n : Int) := by omega
  have hcp := fun ty => hcp1 ty (n + 1 - m) (G - m) (by omega)
  have hmin : Hid (n - m = Nat.min (n - m) (n - m)) := by show n - m = Nat.min (n - m) (n - m); simp only [Nat.min_def]; split <;> omega
  clear hcp1
  clear hH hl hP hP1 hW1 hY hH1 hb1 hc1 hys hkk
  go_enter Try.func38, Try.ntmps38
  go_wp2_with (at_builtin; refine Lib.wpList_append_run _ rfl (.tmp 34) (.tmp 39) 22 3 rfl _ _ rfl rfl _ _ (hr _) ?_)
  go_region_law (refine step_copies rfl _ _ 22 22 rfl (.slice (some ⟨w.heap.size, (m + 1) * 3, none⟩) (n - m) (G - (m + 1))) (.slice (some ⟨b, m * 3, none⟩) (n - m) (cap - m)) (by simp [Act.eval, Act.put]) (by simp [Act.eval, Act.put]) (hcp2 3 _ _ _ _ hmin.out) ?_)
  go_wp2
  go_ret
  refine ⟨w.heap.size, N2, G, _, rfl, (show HoldsN N2 W1.drew w.heap.size _ from Y1.out).laid _ _ _ _ (by omega), hG, hGN, ?_, by omega, setCells_below (by omega) _ _ _ (below_drewN B1.out 1)⟩
  refine moved_lies HL.out hin (fun q hq => ?_) (fun q h1 h2 => ?_) (fun j hj => ?_)
  · rw [laid, if_neg (by omega), laid, if_neg (by omega)]; exact HY.out q hq
  · rw [laid, if_pos (by omega), show m * 3 + (q + 3 - (m + 1) * 3) = q by omega]
  · rw [laid, if_neg (by omega), laid, if_pos (by omega), show 0 + (m * 3 + j - m * 3) = j by omega]

theorem Insert_any (b N n cap g m : Nat) (F U V : Nat → Int) (f u v : Int) (vs : Nat → Value) (w : World) (hH : HoldsN N w b vs) (hnc : n ≤ cap) (hN : cap * 3 ≤ N) (hl : lies vs n F U V) (hn : (n : Int) ≤ 2000) (hm : m ≤ n)
    (hg : w.heap[g]? = some (.cells #[.int .i64 f, .int .i64 u, .int .i64 v] 47 (0, 0))) (hbg : b ≠ g) :
    Calls Try.prog 38 #[.slice (some ⟨b, 0, none⟩) n cap, .int .i64 m, .slice (some ⟨g, 0, none⟩) 1 1] w (Inserted b n m F U V f u v w) := by
  have hP : Pc w g 0 f u v := by
    refine ⟨?_, ?_, ?_⟩ <;> simp [World.cell?, hg]
  rcases (show m = n ∨ m < n by omega) with k | k
  · subst k
    exact Insert_end b N m cap g F U V f u v vs w hH hnc hN hl hn hP
  · by_cases hr : n + 1 ≤ cap
    · exact Insert_room b N n cap g m F U V f u v vs w hH hr hN hl hn k hg hbg
    · exact Insert_grow b N n cap g m F U V f u v vs w hH hnc (by omega) hN hl hn k hP

/-- A list in a block of the call's own. -/
def Row (B : Nat) (w : World) (b n cap : Nat) (F U V : Nat → Int) : Prop := ∃ N vs, HoldsN N w b vs ∧ n ≤ cap ∧ cap * 3 ≤ N ∧ lies vs n F U V ∧ B ≤ b
theorem Row.next {B : Nat} {w w' : World} {b n cap : Nat} {F U V : Nat → Int} (h : Row B w b n cap F U V) (hb : Below w.heap.size w w') : Row B w' b n cap F U V := by
  obtain ⟨N, vs, h1, h2⟩ := h
  exact ⟨N, vs, h1.next hb, h2⟩
theorem Row.lt {B : Nat} {w : World} {b n cap : Nat} {F U V : Nat → Int} (h : Row B w b n cap F U V) : b < w.heap.size ∧ B ≤ b := by
  obtain ⟨N, vs, h1, h2, h3, h4, h5⟩ := h
  exact ⟨h1.1, h5⟩
theorem Row.pcs {B : Nat} {w : World} {b n cap : Nat} {F U V : Nat → Int} (h : Row B w b n cap F U V) : PcsAt w (some ⟨b, 0, none⟩) n F U V := by
  obtain ⟨N, vs, h1, h2, h3, h4, h5⟩ := h
  exact h1.pcs (by omega) h4
/-- What divide answers. -/
def Divided (B n : Nat) (F U V : Nat → Int) (S : Int → Prop) (d : Int) (w : World) (e : Ending) (w' : World) : Prop :=
  ∃ b2 n2 cap2 F2 U2 V2, e = .returned (.slice (some ⟨b2, 0, none⟩) n2 cap2) ∧ Row B w' b2 n2 cap2 F2 U2 V2 ∧ Below B w w' ∧ n2 ≤ n + 1 ∧ Wk n2 F2 U2 ∧ Cn n2 F2 U2 V2 (fun x => S x ∨ x = d) ∧ (∀ e x, Has n2 F2 U2 V2 e x ↔ Has n F U V e x) ∧
    (∀ i, i < n2 → ¬ midP F2 U2 d i) ∧ ∀ e, (∀ i, i < n → ¬ midP F U e i) → ∀ i, i < n2 → ¬ midP F2 U2 e i
theorem divide_any (B b n cap : Nat) (F U V : Nat → Int) (S : Int → Prop) (d : Int) (w : World) (hR : Row B w b n cap F U V) (hn : (n : Int) ≤ 2000) (hW : Wk n F U) (hC : Cn n F U V S) :
    Calls Try.prog 44 #[.slice (some ⟨b, 0, none⟩) n cap, .int .i64 d] w (Divided B n F U V S d w) := by
  have hb := hR.lt
  obtain ⟨m, m1, m2, m3⟩ := first_bad (fun i => ¬ midP F U d i) n
  rcases (show m = n ∨ m < n by omega) with k | k
  · subst k
    refine (divide_none _ m cap F U V d w hR.pcs (by omega) m2).mono ?_
    rintro e w' ⟨rfl, h⟩
    exact ⟨b, m, cap, F, U, V, rfl, hR.next h, h.mono (by omega), by omega, hW, fun i hi h1 h2 => Or.inl (hC i hi h1 h2), fun _ _ => Iff.rfl, m2, fun e he => he⟩
  · have hM : midP F U d m := Classical.not_not.1 (m3.resolve_left (by omega))
    obtain ⟨N, vs, h1, h2, h3, h4, h5⟩ := hR
    refine (divide_mid b N n cap m F U V d vs w h1 (by omega) h4 (by omega) k m2 hM (fun wq g hq hg hbg => Insert_any b N n cap g m F U V _ _ _ vs wq hq h2 h3 h4 hn (by omega) hg (by omega))).mono ?_
    rintro e w' ⟨b2, N2, cap2, vs2, rfl, q1, q2, q3, q4, q5, q6⟩
    have c := cut_all (S := S) hW hC k hM
    exact ⟨b2, n + 1, cap2, _, _, _, rfl, ⟨N2, vs2, q1, q2, q3, q4, by omega⟩, q6.mono h5, by omega, c⟩

end Go.Proofs.Ytcgjhbjbfdbfaaa
