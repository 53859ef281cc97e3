/-
  A slice of bytes that the call owns, of whose row what lies behind the cells may bear a mark (so []byte of a string lays it): one byte appended, one byte stored. No statement of the seat is proved here.
-/
import Derived.Test.YtojmolemhdonfaaDoorRAbs
import Derived.Laws.IdiomStrings
import Derived.Laws.AppendOwn
namespace Go.Proofs.YtojmolemhdonfaaDoor
open Go.RowKit Kec

/-- The slice v, of n bytes, begins a row of block numbers from base on, whose first cells are xs; nothing of the row's cells is frozen. -/
def OwnT (w : World) (base : Nat) (v : Value) (n : Nat) (xs : List Value) : Prop :=
  ∃ g cap cur fz, v = .slice (some ⟨g, 0, none⟩) n cap ∧ base ≤ g ∧ w.heap[g]? = some (.cells cur 5 fz) ∧ (fz = (0, 0) ∨ cur.size ≤ fz.1) ∧ n ≤ cap ∧ cap ≤ maxLen ∧ cur.size = cap ∧ cur.toList.take n = xs
theorem notFrozen {w : World} {g j : Nat} {cur : Array Value} {fz : Nat × Nat} (hg : w.heap[g]? = some (.cells cur 5 fz)) (hf : fz = (0, 0) ∨ cur.size ≤ fz.1) (hj : j < cur.size) : w.frozen? ⟨g, j, none⟩ = false := by
  unfold World.frozen?
  simp only [hg, Bool.and_eq_false_iff, decide_eq_false_iff_not]
  rcases hf with rfl | hf
  · right; simp
  · left; omega
theorem OwnT.cell {w : World} {base g n cap : Nat} {xs : List Value} (h : OwnT w base (.slice (some ⟨g, 0, none⟩) n cap) n xs) {j : Nat} (hj : j < n) : w.cell? ⟨g, j, none⟩ = xs[j]? := by
  obtain ⟨g', cap', cur, fz, hv, _, hg, _, hn, _, hs, ht⟩ := h
  simp only [Value.slice.injEq, Option.some.injEq, Addr.mk.injEq, and_true, true_and] at hv
  obtain ⟨rfl, rfl⟩ := hv
  rw [cell_of_row w g j cur 5 fz hg, ← ht, List.getElem?_take, if_pos hj]
  simp
theorem OwnT.frozen {w : World} {base g n cap : Nat} {xs : List Value} (h : OwnT w base (.slice (some ⟨g, 0, none⟩) n cap) n xs) {j : Nat} (hj : j < n) : w.frozen? ⟨g, j, none⟩ = false := by
  obtain ⟨g', cap', cur, fz, hv, _, hg, hf, hn, _, hs, ht⟩ := h
  simp only [Value.slice.injEq, Option.some.injEq, Addr.mk.injEq, and_true, true_and] at hv
  obtain ⟨rfl, rfl⟩ := hv
  exact notFrozen hg hf (by omega)
theorem OwnT.store {w : World} {base g n cap : Nat} {xs : List Value} (h : OwnT w base (.slice (some ⟨g, 0, none⟩) n cap) n xs) (j : Nat) (u : Value) :
    OwnT (w.setCell ⟨g, j, none⟩ u) base (.slice (some ⟨g, 0, none⟩) n cap) n (xs.set j u) := by
  obtain ⟨g', cap', cur, fz, hv, hb, hg, hf, hn, hm, hs, ht⟩ := h
  simp only [Value.slice.injEq, Option.some.injEq, Addr.mk.injEq, and_true, true_and] at hv
  obtain ⟨rfl, rfl⟩ := hv
  have e := setCell_eq_setRow w g j cur 5 fz u hg
  refine ⟨g, cap, cur.setIfInBounds j u, fz, rfl, hb, ?_, ?_, hn, hm, by rw [Array.size_setIfInBounds]; exact hs, ?_⟩
  · rw [e]; exact setRow_heap w g cur _ 5 fz hg
  · rw [Array.size_setIfInBounds]; exact hf
  · rw [Array.toList_setIfInBounds, List.take_set, ht]
theorem OwnT.form {w : World} {base n : Nat} {v : Value} {xs : List Value} (h : OwnT w base v n xs) : ∃ g cap, v = .slice (some ⟨g, 0, none⟩) n cap ∧ base ≤ g ∧ g < w.heap.size ∧ cap ≤ maxLen ∧ n ≤ cap := by
  obtain ⟨g, cap, cur, fz, hv, hb, hg, _, hn, hm, _, _⟩ := h
  exact ⟨g, cap, hv, hb, (Array.getElem?_eq_some_iff.1 hg).1, hm, hn⟩
theorem OwnT.block {w w' : World} {base n : Nat} {v : Value} {xs : List Value} (h : OwnT w base v n xs) (hk : ∀ g cap, v = .slice (some ⟨g, 0, none⟩) n cap → w'.heap[g]? = w.heap[g]?) : OwnT w' base v n xs := by
  obtain ⟨g, cap, cur, fz, hv, hb, hg, r⟩ := h
  exact ⟨g, cap, cur, fz, hv, hb, (hk g cap hv).trans hg, r⟩
theorem OwnT.drew {w : World} {base n : Nat} {v : Value} {xs : List Value} (h : OwnT w base v n xs) : OwnT w.drew base v n xs := h
theorem OwnT.alloc {w : World} {base n : Nat} {v : Value} {xs : List Value} (h : OwnT w base v n xs) (o : Obj) : OwnT (w.alloc o) base v n xs :=
  h.block fun g cap hv => by
    obtain ⟨g', cap', hv', _, hl, _⟩ := h.form
    rw [hv] at hv'
    simp only [Value.slice.injEq, Option.some.injEq, Addr.mk.injEq, and_true, true_and] at hv'
    obtain ⟨rfl, rfl⟩ := hv'
    exact Below.heap_alloc w o g hl
theorem OwnT.below {w w' : World} {base B n : Nat} {v : Value} {xs : List Value} (h : OwnT w base v n xs) (hb : Below B w w') (hB : ∀ g cap, v = .slice (some ⟨g, 0, none⟩) n cap → g < B) : OwnT w' base v n xs :=
  h.block fun g cap hv => hb.block g (hB g cap hv)

theorem store_one {P : Program} (w : World) (g n : Nat) (u : Value) (cur : Array Value) (fz : Nat × Nat) (hg : w.heap[g]? = some (.cells cur 5 fz)) (hf : fz = (0, 0) ∨ cur.size ≤ fz.1) (hn : n < cur.size) (h1 : u.oneCell' = true) :
    (storeCells ⟨g, n, none⟩ [u] 0).run P w = .ok () (w.setCell ⟨g, n, none⟩ u) := by
  have hcell : w.cell? ⟨g, n, none⟩ = some cur[n] := by simp [World.cell?, hg, hn]
  have hfro := notFrozen hg hf hn
  have hadd : (⟨g, n, none⟩ : Addr).add 0 = ⟨g, n, none⟩ := by unfold Addr.add; simp
  have hst : (store ((⟨g, n, none⟩ : Addr).add 0) u).run P w = .ok () (w.setCell ⟨g, n, none⟩ u) := by
    rw [hadd, run_store P w _ u _ h1, hcell]
    simp [hfro]
  simp only [storeCells, Sem.run_bind, hst, Result.andThen_ok]
  rfl
/-- One byte appended. -/
theorem append_T {P : Program} (w : World) (base : Nat) (t ty : TypeId) (i : TypeInfo) (z : Value) (ht : P.underlying t = some (.slice 5)) (hi : P.info? 5 = some i) (hz : i.zero = some z)
    (hsize : i.size = 1) (hby : i.bytes = 1) (hzs : z.cells.size = 1) (v : Value) (n : Nat) (xs : List Value) (hown : OwnT w base v n xs)
    (ad : Addr) (u : Value) (c : Nat) (hu : w.cell? ad = some u) (h1 : u.oneCell' = true) (h48 : n + 1 ≤ 140737488355328) (hbase : base ≤ w.heap.size) :
    ∃ v' w', (Builtin.append_ #[t, t] ty #[v, .slice (some ad) 1 c]).run P w = .ok v' w' ∧ OwnT w' base v' (n + 1) (xs ++ [u]) ∧ Below base w w' := by
  obtain ⟨g, cap, cur, fz, rfl, hb, hg, hf, hnc, hcm, hcs, htake⟩ := hown
  have hxl : xs.length = n := by rw [← htake, List.length_take, Array.length_toList]; omega
  have hnews : ∀ j y, [u][j]? = some y → w.cell? (ad.add j) = some y := by
    intro j y hj
    match j, hj with
    | 0, hj => simp at hj; subst hj; simpa [Addr.add] using hu
  by_cases hroom : n + 1 ≤ cap
  · have hfc := run_firstCells_some (P := P) w 1 1 ad 1 c [u] rfl hnews
    have hst := store_one (P := P) w g n u cur fz hg hf (by omega) h1
    refine ⟨.slice (some ⟨g, 0, none⟩) (n + 1) cap, w.setCell ⟨g, n, none⟩ u, ?_, ?_, (Below.refl _ _).setCell hb _⟩
    · simp [Builtin.append_, run_underlying ht, sizeOf, typeInfo, hi, hsize, Builtin.lenOf, hroom, hfc, Addr.add_lit, hst]
    · refine ⟨g, cap, cur.setIfInBounds n u, fz, rfl, hb, ?_, ?_, hroom, hcm, by rw [Array.size_setIfInBounds]; exact hcs, ?_⟩
      · rw [setCell_eq_setRow w g n cur 5 fz u hg]; exact setRow_heap w g cur _ 5 fz hg
      · rw [Array.size_setIfInBounds]; exact hf
      · rw [Array.toList_setIfInBounds]
        have hlt : n < (cur.toList.set n u).length := by rw [List.length_set, Array.length_toList]; omega
        rw [List.take_succ_eq_append_getElem hlt, List.take_set_of_le (Nat.le_refl n), htake]
        simp
  · have holds : ∀ j y, xs[j]? = some y → w.cell? ((⟨g, 0, none⟩ : Addr).add j) = some y := by
      intro j y hy
      have hadd : (⟨g, 0, none⟩ : Addr).add j = ⟨g, j, none⟩ := by unfold Addr.add; split <;> simp_all
      rw [hadd, cell_of_row w g j cur 5 fz hg]
      rw [← htake, List.getElem?_take] at hy
      split at hy
      · simpa using hy
      · cases hy
    have hr := run_append_grow (P := P) w t ty 5 i z ht hi hz ⟨g, 0, none⟩ n cap xs (by rw [hsize]; omega) holds ad 1 c [u] (by rw [hsize]; rfl) hnews (by omega) (by omega) (growslice_fits (by omega) (by rw [hby]; omega))
    have hge := grownCap_ge w (n + 1) cap 5
    have hcm2 : grownCap w (n + 1) cap 5 ≤ maxLen := grownCap_le_maxLen w (n + 1) cap 5 (by unfold maxLen; omega)
    refine ⟨_, _, hr, ⟨w.heap.size, _, _, (0, 0), rfl, hbase, heap_alloc_new w.drew _, .inl rfl, hge, hcm2, ?_, ?_⟩, ((Below.refl _ _).drew).alloc (by simpa using hbase) _⟩
    · simp only [Array.size_append, List.size_toArray, size_zeroCells, hzs, hxl, List.length_singleton]
      omega
    · simp only [Array.toList_append, List.append_assoc]
      rw [← List.append_assoc]
      exact List.take_left' (by rw [List.length_append, hxl]; rfl)
theorem wpList_append_T {P : Program} {ops : Array Oper} {rest : List Oper} {o : Oper} {a : Act} {w : World} {Q : Exit → Act → World → Prop} (hgd : o.guard = none) (s x : Operand) (t : TypeId)
    (ho : o.op = .call { callee := .builtin .append, args := #[s, x], argTypes := #[t, t] }) (base : Nat) (i : TypeInfo) (z : Value) (ht : P.underlying t = some (.slice 5)) (hi : P.info? 5 = some i) (hz : i.zero = some z)
    (hsize : i.size = 1) (hby : i.bytes = 1) (hzs : z.cells.size = 1) (v : Value) (n : Nat) (xs : List Value) (hs : a.eval s = v) (hown : OwnT w base v n xs)
    (ad : Addr) (u : Value) (c : Nat) (hx : a.eval x = .slice (some ad) 1 c) (hu : w.cell? ad = some u) (h1 : u.oneCell' = true) (h48 : n + 1 ≤ 140737488355328) (hbase : base ≤ w.heap.size)
    (h : ∀ v' w', OwnT w' base v' (n + 1) (xs ++ [u]) → Below base w w' → wpList P ops Q rest (a.put o.dst v') w') : wpList P ops Q (o :: rest) a w := by
  refine wpList_plain hgd fun K hK => ?_
  obtain ⟨v', w', hr, h2, h3⟩ := append_T (P := P) w base t o.type i z ht hi hz hsize hby hzs v n xs hown ad u c hu h1 h48 hbase
  unfold Oper.wp execOp
  simp only [ho, resolve, invoke, builtin, Sem.run_bind, Sem.run_pure, Result.andThen_ok, List.map_toArray, List.map_cons, List.map_nil, hs, hx, hr]
  exact hK _ _ (h v' w' h2 h3)
end Go.Proofs.YtojmolemhdonfaaDoor
