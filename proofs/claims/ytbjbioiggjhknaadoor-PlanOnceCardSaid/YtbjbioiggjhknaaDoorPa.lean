/-
  Parse, for any string: the numbers of the class code, or the error. No statement of the seat is proved here.
-/
import Derived.Test.YtbjbioiggjhknaaDoorRg
import Derived.Handy
namespace Go.Proofs.YtbjbioiggjhknaaDoor
open Go Go.RowKit Go.Shelf
attribute [local go_sem] Oper.semAt_some

abbrev nil : Value := .slice none 0 0
def ints (ns : List Int) : List Value := ns.map (Value.int .i64)

theorem info3 : (Tryd.prog.info? 3).map (fun i => (i.zero, i.size, i.bytes)) = some (some (.int .i64 0), 1, 8) := by kernel_rfl

/-- Between two rounds. -/
structure RP (n₀ : Nat) (w : World) (pre : List ByteArray) (W : World) : Prop where
  b2 : Boxed W n₀ 66 nil
  b3 : Boxed W (n₀ + 1) 24 (.int .i64 0)
  sep : Boxed W (n₀ + 4) 9 (.string ⟨#[46]⟩)
  sv : Boxed W (n₀ + 5) 3 (.int .i64 0)
  l : ∃ ns v, Nums (pre.map bs) ns ∧ ns.length ≤ 6 ∧ Boxed W (n₀ + 2) 66 v ∧ W.ownsRow (n₀ + 6) 3 1 v ns.length (ints ns)
  bel : Below n₀ w W
  sz : n₀ + 6 ≤ W.heap.size
/-- A round has returned. -/
structure RX (n₀ : Nat) (w : World) (pre : List ByteArray) (W : World) : Prop where
  b2 : Boxed W n₀ 66 nil
  b3 : Boxed W (n₀ + 1) 24 (.int .i64 3)
  why : ∃ p x, pre = p ++ [x] ∧ (numOf (bs x) = none ∨ p.length = 6)
  bel : Below n₀ w W
  sz : n₀ + 6 ≤ W.heap.size

theorem ownsRow_put {W : World} {base : Nat} {e : TypeId} {size : Nat} {v : Value} {k : Nat} {xs : List Value} (h : W.ownsRow base e size v k xs) {l : Nat} {o : Obj} (o' : Obj) (hl : W.heap[l]? = some o) (ho : o.isCells = false) : (W.putObj l o').ownsRow base e size v k xs :=
  ownsRow_putObj h o' hl ho

theorem RP.put {n₀ : Nat} {w W : World} {pre : List ByteArray} (h : RP n₀ w pre W) {l : Nat} {o : Obj} (o' : Obj) (hn : n₀ ≤ l) (hl : W.heap[l]? = some o) (ho : o.isCells = false) : RP n₀ w pre (W.putObj l o') := by
  obtain ⟨b2, b3, b4, b5, ⟨ns, v, h1, h2, h3, h4⟩, hb, hz⟩ := h
  exact ⟨boxed_put _ b2 hl ho, boxed_put _ b3 hl ho, boxed_put _ b4 hl ho, boxed_put _ b5 hl ho, ⟨ns, v, h1, h2, boxed_put _ h3 hl ho, ownsRow_put h4 _ hl ho⟩,
    hb.grown (grownBy_putObj' W l o') (by omega) (fun k e => by cases e; exact hn), by rw [World.putObj_size]; exact hz⟩
theorem RX.put {n₀ : Nat} {w W : World} {pre : List ByteArray} (h : RX n₀ w pre W) {l : Nat} {o : Obj} (o' : Obj) (hn : n₀ ≤ l) (hl : W.heap[l]? = some o) (ho : o.isCells = false) : RX n₀ w pre (W.putObj l o') := by
  obtain ⟨b2, b3, hw, hb, hz⟩ := h
  exact ⟨boxed_put _ b2 hl ho, boxed_put _ b3 hl ho, hw, hb.grown (grownBy_putObj' W l o') (by omega) (fun k e => by cases e; exact hn), by rw [World.putObj_size]; exact hz⟩
theorem RP.alloc {n₀ : Nat} {w W : World} {pre : List ByteArray} (h : RP n₀ w pre W) (o : Obj) : RP n₀ w pre (W.alloc o) := by
  obtain ⟨b2, b3, b4, b5, ⟨ns, v, h1, h2, h3, h4⟩, hb, hz⟩ := h
  exact ⟨b2.alloc _, b3.alloc _, b4.alloc _, b5.alloc _, ⟨ns, v, h1, h2, h3.alloc _, h4.alloc _⟩, hb.alloc (by omega) _, by rw [World.size_alloc]; omega⟩
theorem boxed_other {W : World} {B b : Nat} {t : TypeId} {v u : Value} (h : Boxed W B t v) (hne : B ≠ b) : Boxed (W.setCell ⟨b, 0, none⟩ u) B t v := h.kept (grownBy_setCell' W b u) (fun e => hne (by cases e; rfl))
theorem row_other {W : World} {base : Nat} {e : TypeId} {size : Nat} {v : Value} {k b : Nat} {xs : List Value} {u : Value} (h : W.ownsRow base e size v k xs) (hb : b < base) : (W.setCell ⟨b, 0, none⟩ u).ownsRow base e size v k xs := by
  refine h.kept (grownBy_setCell' W b u) (.inr ?_)
  intro e'
  have := (h.lt b e').1
  omega
theorem size_set (W : World) (b : Nat) (v : Value) : W.heap.size ≤ (W.setCell ⟨b, 0, none⟩ v).heap.size := (KeepsWalks.setCell W ⟨b, 0, none⟩ v).size
theorem RP.set {n₀ : Nat} {w W : World} {pre : List ByteArray} (h : RP n₀ w pre W) (v : Value) : RP n₀ w pre (W.setCell ⟨n₀ + 3, 0, none⟩ v) := by
  obtain ⟨b2, b3, b4, b5, ⟨ns, u, h1, h2, h3, h4⟩, hb, hz⟩ := h
  exact ⟨boxed_other b2 (by omega), boxed_other b3 (by omega), boxed_other b4 (by omega), boxed_other b5 (by omega), ⟨ns, u, h1, h2, boxed_other h3 (by omega), row_other h4 (by omega)⟩,
    hb.setCell (p := ⟨n₀ + 3, 0, none⟩) (by show n₀ ≤ n₀ + 3; omega) _, Nat.le_trans hz (size_set _ _ _)⟩

theorem grown_of_below {W W' : World} (hb : Below W.heap.size W W') : W.grownBy W' none := ⟨hb.os, hb.tape, hb.output, hb.size, fun k hk _ => hb.block k hk⟩
theorem keeps_of_below {W W' : World} (hb : Below W.heap.size W W') : KeepsOthers W W' := ⟨hb.size, fun k _ hk _ => (hb.block k (Array.getElem?_eq_some_iff.1 hk).1).trans hk⟩
theorem boxed_next {W W' : World} {B : Nat} {t : TypeId} {v : Value} (h : Boxed W B t v) (hb : Below W.heap.size W W') : Boxed W' B t v := h.kept (grown_of_below hb) (by simp)
theorem RP.next {n₀ : Nat} {w W W' : World} {pre : List ByteArray} (h : RP n₀ w pre W) (hn : Below W.heap.size W W') : RP n₀ w pre W' := by
  obtain ⟨b2, b3, b4, b5, ⟨ns, u, h1, h2, h3, h4⟩, hb, hz⟩ := h
  exact ⟨boxed_next b2 hn, boxed_next b3 hn, boxed_next b4 hn, boxed_next b5 hn, ⟨ns, u, h1, h2, boxed_next h3 hn, h4.kept (grown_of_below hn) (by cases hh : u.ownBlock <;> simp)⟩,
    hb.trans (hn.mono (by omega)), Nat.le_trans hz hn.size⟩

theorem RP.quit {n₀ : Nat} {w W : World} {pre : List ByteArray} (x : ByteArray) (h : RP n₀ w pre W) (why : numOf (bs x) = none ∨ pre.length = 6) :
    RX n₀ w (pre ++ [x]) ((W.setCell ⟨n₀, 0, none⟩ nil).setCell ⟨n₀ + 1, 0, none⟩ (.int .i64 3)) := by
  obtain ⟨b2, b3, b4, b5, _, hb, hz⟩ := h
  exact ⟨boxed_other (b2.set _) (by omega), (boxed_other b3 (by omega)).set _, ⟨pre, x, rfl, why⟩,
    (hb.setCell (p := ⟨n₀, 0, none⟩) (Nat.le_refl _) _).setCell (p := ⟨n₀ + 1, 0, none⟩) (by show n₀ ≤ n₀ + 1; omega) _, Nat.le_trans hz (Nat.le_trans (size_set _ _ _) (size_set _ _ _))⟩
theorem row_slice {W : World} {base : Nat} {e : TypeId} {size : Nat} {v : Value} {k : Nat} {xs : List Value} (h : W.ownsRow base e size v k xs) : ∃ p c, v = .slice p k c := by
  rcases h.2 with ⟨rfl, rfl⟩ | ⟨g, cap, _, rfl, _⟩
  · exact ⟨none, 0, rfl⟩
  · exact ⟨_, _, rfl⟩
/-- A number is appended. -/
theorem RP.push {n₀ : Nat} {w W w1 : World} {pre : List ByteArray} {x : ByteArray} {ns : List Int} {m : Int} {v v' u : Value} {tmp : Obj}
    (h : RP n₀ w pre W) (hn : Nums (pre.map bs) ns) (hl : ns.length < 6) (bl : Boxed W (n₀ + 2) 66 v) (row : W.ownsRow (n₀ + 6) 3 1 v ns.length (ints ns)) (hx : numOf (bs x) = some m)
    (bst : Boxed W (n₀ + 3) 9 u) (hown : w1.ownsRow (n₀ + 6) 3 1 v' (ns.length + 1) (ints ns ++ [.int .i64 m])) (hg : (W.alloc tmp).grownBy w1 v.ownBlock) :
    (w1.cell? ⟨n₀ + 2, 0, none⟩ = some v ∧ w1.frozen? ⟨n₀ + 2, 0, none⟩ = false) ∧ RP n₀ w (pre ++ [x]) (w1.setCell ⟨n₀ + 2, 0, none⟩ v') ∧ KeepsOthers W (w1.setCell ⟨n₀ + 2, 0, none⟩ v') ∧ Boxed (w1.setCell ⟨n₀ + 2, 0, none⟩ v') (n₀ + 3) 9 u := by
  obtain ⟨b2, b3, b4, b5, _, hb, hz⟩ := h
  have far : ∀ {B : Nat} {t : TypeId} {z : Value}, B < n₀ + 6 → Boxed W B t z → Boxed w1 B t z := by
    intro B t z hB hbx
    refine (hbx.alloc tmp).kept hg ?_
    intro e
    have := (row.lt B e.symm).1
    omega
  have l1 := far (by omega) bl
  have zz : W.heap.size ≤ w1.heap.size := by have := hg.size; rw [World.size_alloc] at this; omega
  refine ⟨⟨l1.cell, l1.frozen⟩, ⟨boxed_other (far (by omega) b2) (by omega), boxed_other (far (by omega) b3) (by omega), boxed_other (far (by omega) b4) (by omega), boxed_other (far (by omega) b5) (by omega),
    ⟨ns ++ [m], v', ?_, by simp; omega, l1.set v', ?_⟩, ?_, Nat.le_trans hz (Nat.le_trans zz (size_set _ _ _))⟩, ?_, boxed_other (far (by omega) bst) (by omega)⟩
  · rw [List.map_append]; exact hn.snoc hx
  · have := row_other (b := n₀ + 2) (u := v') hown (by omega)
    simpa [ints] using this
  · refine ((hb.alloc (by omega) tmp).grown hg (by simp; omega) ?_).setCell (p := ⟨n₀ + 2, 0, none⟩) (by show n₀ ≤ n₀ + 2; omega) v'
    intro k e
    have := (row.lt k e).1
    omega
  · refine ((KeepsOthers.alloc W tmp).trans (KeepsOthers.of_grownBy hg ?_)).trans (KeepsOthers.setCell _ _ _)
    intro j o ej hj
    rcases (row.alloc tmp).2 with ⟨rfl, _⟩ | ⟨g, cap, cur, rfl, _, hgb, _⟩
    · simp [Value.ownBlock] at ej
    · obtain rfl : g = j := by simpa [Value.ownBlock] using ej
      rw [hgb] at hj; cases hj; rfl

/-- What Parse leaves. -/
def ParseTo (l : List UInt8) (w : World) (e : Ending) (w' : World) : Prop :=
  Below w.heap.size w w' ∧ ((∃ ns v, Is l ns ∧ e = .returned (.tuple #[v, .int .i64 0]) ∧ w'.ownsRow w.heap.size 3 1 v ns.length (ints ns)) ∨ ((∀ ns, ¬ Is l ns) ∧ e = .returned (.tuple #[nil, .int .i64 3])))

set_option maxRecDepth 100000 in
set_option maxHeartbeats 4000000 in
theorem Parse_any (s : ByteArray) (w : World) (hE : Env w) (hs : s.size ≤ 140737488355328) : Calls Tryd.prog 30 #[.string s] w (ParseTo (bs s) w) := by
  obtain ⟨i0, hi, hz0, hz1, hz2⟩ := info_parts info3
  have E0 := Lib.hid hE
  have HS := Lib.hid hs
  clear hE hs
  refine (callsIn_wide (n := 9)).1 ?_
  refine callsIn_of_wp_marks Tryd.func30 rfl trivial ?_ rfl
  simp only [Tryd.ntmps30, List.size_toArray, List.length_cons, List.length_nil, Nat.reduceAdd, Nat.reduceSub, Array.replicate_succ, Array.replicate_zero, List.push_toArray, List.append_toArray, List.nil_append, List.cons_append]
  gi_wp2_with fail
  refine ⟨trivial, (callsIn_wide.2 (SplitSeq_any _ _ _)).mono ?_⟩
  rintro e w' ⟨rfl, rfl⟩
  gi_wp2_with fail
  rw [show w.heap.size + 1 + 1 + 1 + 2 = w.heap.size + 5 from rfl, show w.heap.size + 1 + 1 + 1 + 1 = w.heap.size + 4 from rfl, show w.heap.size + 1 + 1 + 1 = w.heap.size + 3 from rfl, show w.heap.size + 1 + 1 = w.heap.size + 2 from rfl]
  have hR : ∀ o o', RP w.heap.size w [] (((((((w.alloc (Obj.cells #[Value.slice none 0 0] 66)).alloc (Obj.cells #[Value.int IntKind.i64 0] 24)).alloc
                  (Obj.cells #[Value.slice none 0 0] 66)).alloc (Obj.cells #[Value.string s] 9)).alloc (Obj.cells #[Value.string { data := #[46] }] 9)).alloc (Obj.cells #[Value.int IntKind.i64 0] 3)).alloc o |>.alloc o') := by
    intro o o'
    have k2 := Boxed.new w 66 nil
    have k3 := Boxed.new (w.alloc (Obj.cells #[nil] 66)) 24 (.int .i64 0)
    have k4 := Boxed.new ((w.alloc (Obj.cells #[nil] 66)).alloc (Obj.cells #[Value.int IntKind.i64 0] 24)) 66 nil
    have k6 := Boxed.new ((((w.alloc (Obj.cells #[nil] 66)).alloc (Obj.cells #[Value.int IntKind.i64 0] 24)).alloc (Obj.cells #[nil] 66)).alloc (Obj.cells #[Value.string s] 9)) 9 (.string ⟨#[46]⟩)
    have k7 := Boxed.new (((((w.alloc (Obj.cells #[nil] 66)).alloc (Obj.cells #[Value.int IntKind.i64 0] 24)).alloc (Obj.cells #[nil] 66)).alloc (Obj.cells #[Value.string s] 9)).alloc (Obj.cells #[.string ⟨#[46]⟩] 9)) 3 (.int .i64 0)
    simp only [World.size_alloc] at k3 k4 k6 k7
    refine ⟨(((((((k2.alloc _).alloc _).alloc _).alloc _).alloc _).alloc _).alloc _), ((((((k3.alloc _).alloc _).alloc _).alloc _).alloc _).alloc _), ((k6.alloc _).alloc _).alloc _, (k7.alloc _).alloc _, ⟨[], nil, Nums.nil, by simp, (((((k4.alloc _).alloc _).alloc _).alloc _).alloc _), World.ownsRow_nil _ _ _ _⟩, by go_grown, by simp⟩
  have hb3 : Boxed ((((((w.alloc (Obj.cells #[Value.slice none 0 0] 66)).alloc (Obj.cells #[Value.int IntKind.i64 0] 24)).alloc
                  (Obj.cells #[Value.slice none 0 0] 66)).alloc (Obj.cells #[Value.string s] 9)).alloc (Obj.cells #[Value.string { data := #[46] }] 9)).alloc (Obj.cells #[Value.int IntKind.i64 0] 3)) (w.heap.size + 3) 9 (.string s) := by
    have k := Boxed.new (((w.alloc (Obj.cells #[nil] 66)).alloc (Obj.cells #[Value.int IntKind.i64 0] 24)).alloc (Obj.cells #[nil] 66)) 9 (.string s)
    simp only [World.size_alloc] at k
    exact (k.alloc _).alloc _
  obtain ⟨W0, hW0⟩ : ∃ W0, W0 = (((((w.alloc (Obj.cells #[Value.slice none 0 0] 66)).alloc (Obj.cells #[Value.int IntKind.i64 0] 24)).alloc
                  (Obj.cells #[Value.slice none 0 0] 66)).alloc (Obj.cells #[Value.string s] 9)).alloc (Obj.cells #[Value.string { data := #[46] }] 9)).alloc (Obj.cells #[Value.int IntKind.i64 0] 3) := ⟨_, rfl⟩
  rw [← hW0] at hR hb3 ⊢
  have zW : W0.heap.size = w.heap.size + 6 := by rw [hW0]; simp
  clear hW0
  refine range_split (n := 9) (by omega) (w.heap.size + 3) (w.heap.size + 4) (w.heap.size + 5) rfl rfl s HS.out (RP w.heap.size w) (RX w.heap.size w) ?a1
    (fun pre W l o o' hl h1 h2 h3 => h3.put o' (by omega) h1 h2) (fun pre W l o o' hl h1 h2 h3 => h3.put o' (by omega) h1 h2) (fun pre W v u _ h => h.set v)
    (fun pre W h => ⟨h.sep, h.sv⟩) hb3 hR ?assign ?body ?done ?stop
  case assign =>
    intro l x W K hK
    gi_wp2
    exact hK
  case body =>
    intro l pre x W v hx h hv
    have NN := Lib.hid (number_any x W (E0.out.below h.bel) (by have := HS.out; omega))
    have NQ := Lib.hid (numOf_numP (bs x))
    cases hn : numP (bs x) with
    | none =>
      rw [hn] at NN NQ
      have HN : Hid (numOf (bs x) = none) := NQ.out
      clear hn hx NQ
      gi_wp2_with fail
      refine ⟨trivial, (CallsIn.inRound l (callsIn_wide.2 NN.out)).mono ?_⟩
      rintro e W2 ⟨rfl, hb⟩
      have H2 := Lib.hid (h.next hb)
      have V2 := Lib.hid (boxed_next hv hb)
      have K2 := Lib.hid (keeps_of_below hb)
      have c2 := H2.out.b2.cell
      have c3 := H2.out.b3.cell
      have f2 := H2.out.b2.frozen
      have f3 := H2.out.b3.frozen
      clear h hv hb
      unfold numR
      gi_wp2_with fail
      refine ⟨trivial, ?_⟩
      gi_wp2_with fail
      exact ⟨K2.out.trans ((KeepsOthers.setCell _ _ _).trans (KeepsOthers.setCell _ _ _)), boxed_other (boxed_other V2.out (by omega)) (by omega), H2.out.quit x (.inl HN.out)⟩
    | some m =>
      rw [hn] at NN NQ
      have NQ' : Hid (numOf (bs x) = if 1 ≤ m ∧ m ≤ 999 then some m else none) := NQ.out
      clear hn hx NQ
      gi_wp2_with fail
      refine ⟨trivial, (CallsIn.inRound l (callsIn_wide.2 NN.out)).mono ?_⟩
      rintro e W2 ⟨rfl, hb⟩
      have H2 := Lib.hid (h.next hb)
      have V2 := Lib.hid (boxed_next hv hb)
      have K2 := Lib.hid (keeps_of_below hb)
      obtain ⟨ns, v', hns, hlen, bl, row⟩ := H2.out.l
      obtain ⟨p, c, rfl⟩ := row_slice row
      have c2 := H2.out.b2.cell
      have c3 := H2.out.b3.cell
      have c4 := bl.cell
      have f2 := H2.out.b2.frozen
      have f3 := H2.out.b3.frozen
      have NS := Lib.hid hns
      have BL := Lib.hid bl
      have RW := Lib.hid row
      clear h hv hb hns bl row
      unfold numR
      by_cases hm : 1 ≤ m ∧ m ≤ 999
      · have dm : (decide (1 ≤ m) && decide (m ≤ 999)) = true := by simp [hm.1, hm.2]
        have HN : Hid (numOf (bs x) = some m) := by have := NQ'.out; rw [if_pos hm] at this; exact this
        clear hm NQ'
        by_cases h6 : ns.length = 6
        · have d6 : ((ns.length : Int) == 6) = true := by simp [h6]
          have L6 : Hid (pre.length = 6) := by
            have := congrArg List.length NS.out.2
            simp at this
            exact this.trans h6
          clear h6 hlen
          gi_wp2_with fail
          refine ⟨trivial, (CallsIn.inRound l (callsIn_wide.2 (isNumber_any _ _))).mono ?_⟩
          rintro e W3 ⟨rfl, rfl⟩
          rw [dm]
          gi_wp2_with fail
          exact ⟨K2.out.trans ((KeepsOthers.setCell _ _ _).trans (KeepsOthers.setCell _ _ _)), boxed_other (boxed_other V2.out (by omega)) (by omega), H2.out.quit x (.inr L6.out)⟩
        · have d6 : ((ns.length : Int) == 6) = false := by rw [beq_eq_false_iff_ne]; omega
          have L6 : ns.length < 6 := by omega
          have z2 := H2.out.sz
          clear h6 hlen
          gi_wp2_with fail
          refine ⟨trivial, (CallsIn.inRound l (callsIn_wide.2 (isNumber_any _ _))).mono ?_⟩
          rintro e W3 ⟨rfl, rfl⟩
          rw [dm]
          gi_wp2_with (gi_at_builtin; refine wpListIn_append_own _ rfl _ _ 66 rfl (w.heap.size + 6) 3 i0 (.int .i64 0) 1 8 Tryd.underlying66 hi hz0 hz1 hz2 rfl (by decide) _ _ _ rfl (RW.out.alloc _) ⟨W2.heap.size, 0, none⟩ 1 1 [.int .i64 m] rfl rfl (cell_one_new _ _ _) (by simp [Value.oneCell']) (by unfold maxLen; omega) (by omega) (by simp; omega) ?_; intro v' w1 hown' hgrow _; obtain ⟨g', cap', rfl⟩ := ownsRow_succ hown'; obtain ⟨⟨q1, q2⟩, q3, q4, q5⟩ := H2.out.push NS.out L6 BL.out RW.out HN.out V2.out hown' hgrow; have Q3 := Lib.hid q3; have Q4 := Lib.hid q4; have Q5 := Lib.hid q5; clear q3 q4 q5 hown' hgrow)
          exact ⟨K2.out.trans Q4.out, Q5.out, Q3.out⟩
      · have dm : (decide (1 ≤ m) && decide (m ≤ 999)) = false := by
          rw [Bool.and_eq_false_iff]; simp only [decide_eq_false_iff_not]; omega
        have HN : Hid (numOf (bs x) = none) := by have := NQ'.out; rw [if_neg hm] at this; exact this
        clear hm NQ'
        gi_wp2_with fail
        refine ⟨trivial, (CallsIn.inRound l (callsIn_wide.2 (isNumber_any _ _))).mono ?_⟩
        rintro e W3 ⟨rfl, rfl⟩
        rw [dm]
        gi_wp2_with fail
        exact ⟨K2.out.trans ((KeepsOthers.setCell _ _ _).trans (KeepsOthers.setCell _ _ _)), boxed_other (boxed_other V2.out (by omega)) (by omega), H2.out.quit x (.inl HN.out)⟩
  case done =>
    intro ys W hys h hD
    obtain ⟨ns, v', hns, hlen, bl, row⟩ := h.l
    obtain ⟨p, c, rfl⟩ := row_slice row
    have IS : Hid (Is (bs s) ns) := by
      have hns' := hns
      rw [hys] at hns'
      exact hns'.is hlen
    have z2 := h.sz
    have B2 := Lib.hid (boxed_other (b := w.heap.size + 1) (u := .int .i64 0) (h.b2.set (.slice p ns.length c)) (by omega))
    have B3 := Lib.hid ((boxed_other (b := w.heap.size) (u := .slice p ns.length c) h.b3 (by omega)).set (.int .i64 0))
    have RW := Lib.hid (row_other (b := w.heap.size + 1) (u := .int .i64 0) (row_other (b := w.heap.size) (u := .slice p ns.length c) row (by omega)) (by omega))
    have DD := Lib.hid (keep_set _ (w.heap.size + 1) (.int .i64 0) (keep_set _ w.heap.size (.slice p ns.length c) hD rfl) rfl)
    have BB := Lib.hid ((h.bel.setCell (p := ⟨w.heap.size, 0, none⟩) (Nat.le_refl _) (.slice p ns.length c)).setCell (p := ⟨w.heap.size + 1, 0, none⟩) (by show w.heap.size ≤ w.heap.size + 1; omega) (.int .i64 0))
    have c2 := h.b2.cell
    have c3 := h.b3.cell
    have c4 := bl.cell
    have f2 := h.b2.frozen
    have f3 := h.b3.frozen
    clear h hns bl row hys hD hlen
    gi_wp2
    refine ⟨by simp, .inl ⟨_, _, rfl, run_takeDeferred DD.out, ?_⟩⟩
    have q2 := (boxed_put (.deferred none) B2.out DD.out rfl).cell
    have q3 := (boxed_put (.deferred none) B3.out DD.out rfl).cell
    refine ⟨.tuple #[.slice p ns.length c, .int .i64 0], by simp [results, Tryd.f30, go_sem, q2, q3], ?_, .inl ⟨ns, _, IS.out, rfl, ?_⟩⟩
    · exact BB.out.grown (grownBy_putObj' _ _ _) BB.out.size (fun k e => by cases e; omega)
    · have r := ownsRow_put RW.out (.deferred none) DD.out rfl
      refine ⟨r.1, r.2.imp id ?_⟩
      rintro ⟨g, cap, cur, e1, e2, e3⟩
      exact ⟨g, cap, cur, e1, by omega, e3⟩
  case stop =>
    intro pre x rest W hsp h hD
    have NI : Hid (∀ ns, ¬ Is (bs s) ns) := by
      obtain ⟨p, y, e, hw⟩ := h.why
      obtain ⟨rfl, e2⟩ := List.append_inj' e rfl
      cases e2
      refine not_is hsp ?_
      rcases hw with hw | hw
      · exact .inl hw
      · exact .inr (by simpa using hw)
    have B2 := Lib.hid h.b2
    have B3 := Lib.hid h.b3
    have DD := Lib.hid hD
    have BB := Lib.hid h.bel
    clear h hsp hD
    gi_wp2
    refine ⟨by simp, .inl ⟨_, _, rfl, run_takeDeferred DD.out, ?_⟩⟩
    have q2 := (boxed_put (.deferred none) B2.out DD.out rfl).cell
    have q3 := (boxed_put (.deferred none) B3.out DD.out rfl).cell
    refine ⟨.tuple #[nil, .int .i64 3], by simp [results, Tryd.f30, go_sem, q2, q3], ?_, .inr ⟨NI.out, rfl⟩⟩
    exact BB.out.grown (grownBy_putObj' _ _ _) BB.out.size (fun k e => by cases e; omega)

end Go.Proofs.YtbjbioiggjhknaaDoor
