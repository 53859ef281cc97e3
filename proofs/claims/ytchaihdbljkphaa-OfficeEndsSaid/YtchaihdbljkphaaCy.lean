/-
  The reference's copy of a list of offices. No statement of the seat is proved here.
-/
import Derived.Test.YtchaihdbljkphaaEe
import Derived.Laws.AppendOwnNone
namespace Go.Proofs.Ytchaihdbljkphaa
open Go Go.RowKit Go.Maps Go.Joins

theorem app_none (w : World) (z c : Nat) (ty : TypeId) (v : Value) (h : w.ownsRow z 3 1 v 0 []) : (Builtin.append_ #[28, 28] ty #[v, .slice none 0 c]).run Try.prog w = .ok v w := by
  obtain ⟨i0, hi, _⟩ := info_parts info3
  have ht := Try.underlying28
  rcases h.2 with ⟨rfl, _⟩ | ⟨g, cap, cur, rfl, _, _, hnc, _⟩
  · simp [Builtin.append_, run_underlying ht, sizeOf, typeInfo, hi, Builtin.lenOf, Builtin.firstCells]
  · simp [Builtin.append_, run_underlying ht, sizeOf, typeInfo, hi, Builtin.lenOf, Builtin.firstCells, storeCells]
/-- Numbers appended onto an empty row of the call's own. -/
theorem wp_ints {w : World} {ops : Array Oper} {rest : List Oper} {o : Oper} {a : Act} {Q : Exit → Act → World → Prop} (hgd : o.guard = none) (s x : Operand)
    (ho : o.op = .call { callee := .builtin .append, args := #[s, x], argTypes := #[28, 28] }) (z : Nat) (v : Value) (hs : a.eval s = v) (hown : w.ownsRow z 3 1 v 0 [])
    (q : Option Addr) (l : List Int) (n cq : Nat) (hx : a.eval x = .slice q n cq) (hn : l.length = n) (hI : IntsAt w q l) (hsz : n * 8 ≤ 140737488355328) (hz : z ≤ w.heap.size)
    (h : ∀ v' w', IRow w' z v' l → w.grownBy w' v.ownBlock → wpList Try.prog ops Q rest (a.put o.dst v') w') : wpList Try.prog ops Q (o :: rest) a w := by
  subst hn
  cases q with
  | none =>
    have l0 : l = [] := by
      rcases hI with h | ⟨_, _, h, _⟩
      · exact h
      · cases h
    subst l0
    refine wpList_plain hgd fun K hK => ?_
    have hrun := app_none w z cq o.type v hown
    unfold Oper.wp
    simp [execOp, ho, resolve, invoke, builtin, hs, hx, hrun, Result.andThen]
    exact hK _ _ (h v w hown ⟨rfl, rfl, rfl, Nat.le_refl _, fun k _ _ => rfl⟩)
  | some ad =>
    obtain ⟨i0, hi, hz0, hz1, hz2⟩ := info_parts info3
    refine wpList_append_own w hgd s x 28 ho z 3 i0 (.int .i64 0) 1 8 Try.underlying28 hi hz0 hz1 hz2 rfl (by decide) v 0 [] hs hown ad l.length cq (iw l) hx (by simp [iw]) (fun j u hu => ?_) (fun u hu => ?_) (by unfold maxLen; omega) (by omega) hz ?_
    · unfold iw at hu
      rw [List.getElem?_map] at hu
      cases hj : l[j]? with
      | none => rw [hj] at hu; cases hu
      | some y =>
        rw [hj] at hu
        obtain rfl := Option.some.inj hu
        obtain ⟨b, f, e, hc⟩ := hI.get hj
        cases e
        rw [Addr.add_lit]
        exact hc
    · obtain ⟨y, _, rfl⟩ := List.mem_map.1 hu
      rfl
    · intro v' w' h1 h2 _
      refine h v' w' ?_ h2
      unfold IRow
      rw [Nat.zero_add, List.nil_append] at h1
      exact h1
theorem offC_snoc : ∀ (m : List Off) (y : Off), offC (m ++ [y]) = offC m ++ cellsO y
  | [], y => by show cellsO y ++ [] = _; simp [offC]
  | x :: m, y => by
    show cellsO x ++ offC (m ++ [y]) = _
    rw [offC_snoc m y, ← List.append_assoc]
    rfl
theorem ints_grown {w w' : World} {p : Option Addr} {l : List Int} {row : Option Nat} (h : IntsAt w p l) (hn : l = [] ∨ ∀ a, p = some a → some a.block ≠ row ∧ a.block < w.heap.size) (hg : w.grownBy w' row) : IntsAt w' p l := by
  rcases hn with e | hn
  · exact .inl e
  · rcases h with e | ⟨b, q, hp, hc⟩
    · exact .inl e
    · exact .inr ⟨b, q, hp, fun i x hi => hg.cell (hc i x hi) (hn _ hp).1⟩
/-- A row of copies under way. -/
structure CR (w : World) (B : Nat) (v : Value) (k : Nat) (l m : List Off) : Prop where
  len : m.length = k
  row : w.ownsRow B 43 5 v k (offC m)
  nxs : ∀ x ∈ m, IntsAt w x.np x.nx ∧ (x.nx = [] ∨ ∀ a, x.np = some a → some a.block ≠ v.ownBlock ∧ a.block < w.heap.size)
  eqs : ∀ (j : Nat) (a b : Off), l[j]? = some a → m[j]? = some b → EqO a b
theorem CR.next {w w' : World} {B : Nat} {v : Value} {k : Nat} {l m : List Off} (h : CR w B v k l m) (hb : Below w.heap.size w w') : CR w' B v k l m :=
  ⟨h.len, World.ownsRow.kept (row := none) h.row ⟨hb.os, hb.tape, hb.output, hb.size, fun k hk _ => hb.block k hk⟩ (by
    by_cases e : v.ownBlock = none
    · exact .inl e
    · exact .inr e), fun x hx => ⟨(h.nxs x hx).1.next hb, (h.nxs x hx).2.imp id fun g a ha => ⟨(g a ha).1, Nat.lt_of_lt_of_le (g a ha).2 hb.size⟩⟩, h.eqs⟩
theorem CR.push {w w' : World} {B : Nat} {v v' : Value} {k : Nat} {l m : List Off} (h : CR w B v k l m) {y a : Off} (hr : w'.ownsRow B 43 5 v' (k + 1) (offC m ++ cellsO y)) (hg : w.grownBy w' v.ownBlock) (hat : v'.ownBlock = v.ownBlock ∨ v'.ownBlock = some w.heap.size)
    (hy : IntsAt w y.np y.nx) (hy2 : y.nx = [] ∨ ∀ a, y.np = some a → some a.block ≠ v.ownBlock ∧ a.block < w.heap.size) (ha : l[k]? = some a) (he : EqO a y) : CR w' B v' (k + 1) l (m ++ [y]) := by
  have far : ∀ x : Off, (x.nx = [] ∨ ∀ a, x.np = some a → some a.block ≠ v.ownBlock ∧ a.block < w.heap.size) → (x.nx = [] ∨ ∀ a, x.np = some a → some a.block ≠ v'.ownBlock ∧ a.block < w'.heap.size) := fun x hx => hx.imp id fun g a ha => by
    obtain ⟨g1, g2⟩ := g a ha
    refine ⟨?_, Nat.lt_of_lt_of_le g2 hg.size⟩
    rcases hat with e | e <;> rw [e]
    · exact g1
    · intro q
      have := Option.some.inj q
      omega
  refine ⟨by rw [List.length_append, h.len]; rfl, by rw [offC_snoc]; exact hr, fun x hx => ?_, fun j p q hp hq => ?_⟩
  · rcases List.mem_append.1 hx with g | g
    · exact ⟨ints_grown (h.nxs x g).1 (h.nxs x g).2 hg, far x (h.nxs x g).2⟩
    · obtain rfl := List.mem_singleton.1 g
      exact ⟨ints_grown hy hy2 hg, far _ hy2⟩
  · rcases Nat.lt_or_ge j k with g | g
    · rw [List.getElem?_append_left (by rw [h.len]; exact g)] at hq
      exact h.eqs j p q hp hq
    · have jl := (List.getElem?_eq_some_iff.1 hq).1
      rw [List.length_append, h.len] at jl
      obtain rfl : j = k := by simp at jl; omega
      rw [List.getElem?_append_right (by rw [h.len]; omega), h.len, Nat.sub_self] at hq
      obtain rfl := Option.some.inj (ha.symm.trans hp)
      obtain rfl := Option.some.inj hq
      exact he
theorem CR.cpy {w : World} {B : Nat} {v : Value} {k : Nat} {l m : List Off} (h : CR w B v k l m) (hk : l.length = k) (h0 : 0 < k) : ∃ g cap, v = .slice (some ⟨g, 0, none⟩) k cap ∧ Cpy w g l m ∧ B ≤ g := by
  rcases ownsRow_forms h.row with ⟨_, e⟩ | ⟨g, cap, rfl⟩
  · omega
  · obtain ⟨h1, h2⟩ := ownL_of_row h.row h.len
    exact ⟨g, cap, rfl, ⟨by rw [h.len, hk], h1, fun x hx => ⟨(h.nxs x hx).1, (h.nxs x hx).2.imp id fun g2 a ha e => (g2 a ha).1 (by rw [e]; rfl)⟩, h.eqs⟩, h2⟩
theorem IRow.open3 {w : World} {B : Nat} {r : Value} {l : List Int} (h : IRow w B r l) : ∃ q c, r = .slice q l.length c ∧ IntsAt w q l ∧ ∀ a, q = some a → B ≤ a.block ∧ a.block < w.heap.size := by
  obtain ⟨q, c, hr, hI⟩ := h.open'
  refine ⟨q, c, hr, hI, fun a ha => ?_⟩
  rcases ownsRow_forms h with ⟨e, _⟩ | ⟨g, cap, e⟩
  · rw [hr, ha] at e
    cases e
  · have e2 := e
    rw [hr, ha] at e2
    injection e2 with e2 _ _
    injection e2 with e2
    rw [e2]
    exact World.ownsRow.lt h g (by rw [e]; rfl)
theorem cell_five_new (w : World) (x : Off) (t : TypeId) : ∀ j u, (cellsO x)[j]? = some u → (w.alloc (.cells #[.int .i64 x.id, .string x.nm, .int .i64 x.fr, .int .i64 x.un, .slice x.np x.nx.length x.nc] t)).cell? ((⟨w.heap.size, 0, none⟩ : Addr).add j) = some u := by
  intro j u hu
  rw [Addr.add_lit, Nat.zero_add]
  have ho := off_new w x t
  have hj : j < 5 := (List.getElem?_eq_some_iff.1 hu).1
  match j, hj, hu with
  | 0, _, hu => obtain rfl := Option.some.inj hu; exact ho.1
  | 1, _, hu => obtain rfl := Option.some.inj hu; exact ho.2.1
  | 2, _, hu => obtain rfl := Option.some.inj hu; exact ho.2.2.1
  | 3, _, hu => obtain rfl := Option.some.inj hu; exact ho.2.2.2.1
  | 4, _, hu => obtain rfl := Option.some.inj hu; exact ho.2.2.2.2

end Go.Proofs.Ytchaihdbljkphaa
