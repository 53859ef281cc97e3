/-
  Copies of lists of offices, in the code. No statement of the seat is proved here.
-/
import Derived.Test.YtchaihdbljkphaaOn0
namespace Go.Proofs.Ytchaihdbljkphaa
open Go Go.RowKit Go.Maps Go.Joins

theorem clone_ints (p : Option Addr) (l : List Int) (c : Nat) (w : World) (hp : IntsAt w p l) (hs : l.length * 8 ≤ 140737488355328) :
    Calls Try.prog 43 #[.slice p l.length c] w fun e w' => ∃ (q : Option Addr) (d : Nat), e = .returned (.slice q l.length d) ∧ IntsAt w' q l ∧ (l = [] ∨ ∀ a, q = some a → w.heap.size ≤ a.block) ∧ Below w.heap.size w w' := by
  have key : ∀ (v' : Value) (w' : World), IRow w' w.heap.size v' l → ∃ (q : Option Addr) (d : Nat), v' = .slice q l.length d ∧ IntsAt w' q l ∧ (l = [] ∨ ∀ a, q = some a → w.heap.size ≤ a.block) := fun v' w' h => by
    obtain ⟨q, d, hv, hI⟩ := h.open'
    refine ⟨q, d, hv, hI, ?_⟩
    by_cases h0 : l = []
    · exact .inl h0
    · obtain ⟨g, cap, hr, hB, _⟩ := h.get h0
      rw [hv] at hr
      injection hr with e1 _ _
      exact .inr fun a ha => by
        rw [e1] at ha
        injection ha with ha
        rw [← ha]
        exact hB
  rcases hp with rfl | ⟨b, o, rfl, h⟩
  · cases p with
    | none =>
      refine (Try.slices_Clone_int_nil 0 c w).mono ?_
      rintro e w' ⟨rfl, rfl⟩
      exact ⟨none, 0, rfl, .inl rfl, .inl rfl, Below.refl _ _⟩
    | some a =>
      refine (Try.slices_Clone_int_zero a c w).mono ?_
      rintro e w' ⟨v', rfl, hr, _, hb⟩
      obtain ⟨q, d, rfl, h1, h2⟩ := key v' w' hr
      exact ⟨q, d, rfl, h1, h2, hb⟩
  · refine (Try.slices_Clone_int b o l.length c l w (Nat.le_refl _) hs (fun j hj => by
      rw [h j l[j] (List.getElem?_eq_getElem hj)]
      simp [hj])).mono ?_
    rintro e w' ⟨v', rfl, hr, _, hb⟩
    rw [List.take_length] at hr
    obtain ⟨q, d, rfl, h1, h2⟩ := key v' w' hr
    exact ⟨q, d, rfl, h1, h2, hb⟩

/-- An office's cells. -/
def cellsO (x : Off) : List Value := [.int .i64 x.id, .string x.nm, .int .i64 x.fr, .int .i64 x.un, .slice x.np x.nx.length x.nc]
def offC : List Off → List Value
  | [] => []
  | x :: l => cellsO x ++ offC l
theorem offC_len : ∀ l : List Off, (offC l).length = l.length * 5
  | [] => rfl
  | x :: l => by
    show (cellsO x ++ offC l).length = _
    rw [List.length_append, offC_len l, List.length_cons]
    show 5 + _ = _
    omega
theorem offC_get : ∀ (l : List Off) (j : Nat) (x : Off), l[j]? = some x → ∀ i, i < 5 → (offC l)[j * 5 + i]? = (cellsO x)[i]?
  | [], j, x, h, i, hi => by simp at h
  | y :: l, 0, x, h, i, hi => by
    obtain rfl : y = x := by simpa using h
    show (cellsO y ++ offC l)[0 * 5 + i]? = _
    rw [List.getElem?_append_left (by show _ < 5; omega), Nat.zero_mul, Nat.zero_add]
  | y :: l, j + 1, x, h, i, hi => by
    show (cellsO y ++ offC l)[(j + 1) * 5 + i]? = _
    rw [List.getElem?_append_right (by show 5 ≤ _; omega)]
    show (offC l)[(j + 1) * 5 + i - 5]? = _
    rw [show (j + 1) * 5 + i - 5 = j * 5 + i by omega]
    exact offC_get l j x (by simpa using h) i hi
/-- Block g holds some offices, and may be written. -/
def OwnL (w : World) (g : Nat) (m : List Off) : Prop := g < w.heap.size ∧ ∀ j x, m[j]? = some x → ∀ i v, (cellsO x)[i]? = some v → w.cell? ⟨g, j * 5 + i, none⟩ = some v ∧ w.frozen? ⟨g, j * 5 + i, none⟩ = false
theorem OwnL.next {w w' : World} {g : Nat} {m : List Off} (h : OwnL w g m) (hb : Below w.heap.size w w') : OwnL w' g m :=
  ⟨Nat.lt_of_lt_of_le h.1 hb.size, fun j x hx i v hv => ⟨(hb.cell (p := ⟨g, j * 5 + i, none⟩) h.1).trans (h.2 j x hx i v hv).1, (hb.frozen (p := ⟨g, j * 5 + i, none⟩) h.1).trans (h.2 j x hx i v hv).2⟩⟩
theorem OwnL.off {w : World} {g : Nat} {m : List Off} (h : OwnL w g m) {j : Nat} {x : Off} (hx : m[j]? = some x) : OffAt w g (j * 5) x :=
  ⟨(h.2 j x hx 0 _ rfl).1, (h.2 j x hx 1 _ rfl).1, (h.2 j x hx 2 _ rfl).1, (h.2 j x hx 3 _ rfl).1, (h.2 j x hx 4 _ rfl).1⟩
theorem OwnL.set {w : World} {g : Nat} {m : List Off} (h : OwnL w g m) {k : Nat} {x x' : Off} (hx : m[k]? = some x) {i : Nat} (hi : i < 5) {v : Value} (hc : cellsO x' = (cellsO x).set i v) : OwnL (w.setCell ⟨g, k * 5 + i, none⟩ v) g (m.set k x') := by
  refine ⟨by simpa using h.1, fun j y hy t u hu => ⟨?_, (World.frozen?_setCell _ _ _ _).trans ?_⟩⟩
  · have ht : t < 5 := (List.getElem?_eq_some_iff.1 hu).1
    rw [List.getElem?_set] at hy
    split at hy
    · rename_i e
      subst e
      split at hy
      · obtain rfl := Option.some.inj hy
        rw [hc, List.getElem?_set] at hu
        split at hu
        · rename_i e2
          subst e2
          split at hu
          · obtain rfl := Option.some.inj hu
            have hlt : i < (cellsO x).length := hi
            exact World.cell?_setCell_same _ _ _ (h.2 k x hx i _ (List.getElem?_eq_getElem hlt)).1
          · cases hu
        · rename_i e2
          rw [World.cell?_setCell_other _ _ _ _ (fun q => by have := congrArg Addr.off q; simp at this; omega)]
          exact (h.2 k x hx t u hu).1
      · cases hy
    · rename_i e
      rw [World.cell?_setCell_other _ _ _ _ (fun q => by have := congrArg Addr.off q; simp at this; omega)]
      exact (h.2 j y hy t u hu).1
  · have ht : t < 5 := (List.getElem?_eq_some_iff.1 hu).1
    rw [List.getElem?_set] at hy
    split at hy
    · rename_i e
      subst e
      have hlt : t < (cellsO x).length := ht
      exact (h.2 k x hx t _ (List.getElem?_eq_getElem hlt)).2
    · exact (h.2 j y hy t u hu).2
/-- Numbers that do not lie in a block. -/
def IntsO (w : World) (g : Nat) (p : Option Addr) (l : List Int) : Prop := IntsAt w p l ∧ (l = [] ∨ ∀ a, p = some a → a.block ≠ g)
theorem IntsO.next {w w' : World} {g : Nat} {p : Option Addr} {l : List Int} (h : IntsO w g p l) (hb : Below w.heap.size w w') : IntsO w' g p l := ⟨h.1.next hb, h.2⟩
theorem IntsO.set {w : World} {g o : Nat} {p : Option Addr} {l : List Int} (h : IntsO w g p l) (v : Value) : IntsO (w.setCell ⟨g, o, none⟩ v) g p l := by
  refine ⟨?_, h.2⟩
  rcases h.2 with e | hn
  · exact .inl e
  · rcases h.1 with e | ⟨b, q, hp, hc⟩
    · exact .inl e
    · refine .inr ⟨b, q, hp, fun i x hi => ?_⟩
      rw [World.cell?_setCell_other _ _ _ _ (fun e => hn _ hp (congrArg Addr.block e).symm)]
      exact hc i x hi
/-- Two offices that read alike. -/
def EqO (a b : Off) : Prop := a.id = b.id ∧ a.nm = b.nm ∧ a.fr = b.fr ∧ a.un = b.un ∧ a.nx = b.nx
theorem EqO.refl (a : Off) : EqO a a := ⟨rfl, rfl, rfl, rfl, rfl⟩
/-- A copy under way: block g holds offices that read as those of a list. -/
structure Cpy (w : World) (g : Nat) (l m : List Off) : Prop where
  len : m.length = l.length
  own : OwnL w g m
  nxs : ∀ x ∈ m, IntsO w g x.np x.nx
  eqs : ∀ (j : Nat) (a b : Off), l[j]? = some a → m[j]? = some b → EqO a b
theorem Cpy.next {w w' : World} {g : Nat} {l m : List Off} (h : Cpy w g l m) (hb : Below w.heap.size w w') : Cpy w' g l m := ⟨h.len, h.own.next hb, fun x hx => (h.nxs x hx).next hb, h.eqs⟩
theorem Cpy.offs {w : World} {g : Nat} {l m : List Off} (h : Cpy w g l m) : OffsAt w (some ⟨g, 0, none⟩) m :=
  .inr ⟨g, 0, rfl, fun i x hi => ⟨by rw [Nat.zero_add]; exact h.own.off hi, (h.nxs x (List.mem_of_getElem? hi)).1⟩⟩
/-- One office of the copy is written anew. -/
theorem Cpy.put {w : World} {g : Nat} {l l' m : List Off} (h : Cpy w g l m) {k : Nat} {x x' : Off} (hx : m[k]? = some x) {i : Nat} (hi : i < 5) {v : Value} (hc : cellsO x' = (cellsO x).set i v)
    (hn : IntsO w g x'.np x'.nx) (hl : l'.length = l.length) (he : ∀ j a, j ≠ k → l'[j]? = some a → l[j]? = some a) (hk : ∀ a, l'[k]? = some a → EqO a x') : Cpy (w.setCell ⟨g, k * 5 + i, none⟩ v) g l' (m.set k x') := by
  refine ⟨by rw [List.length_set, h.len, hl], h.own.set hx hi hc, fun y hy => ?_, fun j a b ha hb => ?_⟩
  · rcases List.mem_or_eq_of_mem_set hy with q | q
    · exact (h.nxs y q).set v
    · rw [q]; exact hn.set v
  · rw [List.getElem?_set] at hb
    split at hb
    · rename_i e
      subst e
      split at hb
      · obtain rfl := Option.some.inj hb
        exact hk a ha
      · cases hb
    · rename_i e
      exact h.eqs j a b (he j a (fun q => e q.symm) ha) hb

theorem info43 : (Try.prog.info? 43).map (fun i => (i.zero, i.size, i.bytes)) = some (some (.agg #[.int .i64 0, .string ⟨#[]⟩, .int .i64 0, .int .i64 0, .slice none 0 0]), 5, 64) := by kernel_rfl
theorem row_empty5 (w : World) : (w.alloc (.cells #[] 43)).ownsRow w.heap.size 43 5 (.slice (some ⟨w.heap.size, 0, none⟩) 0 0) 0 [] := by
  refine ⟨rfl, .inr ⟨w.heap.size, 0, #[], rfl, Nat.le_refl _, ?_, Nat.le_refl _, by unfold maxLen; omega, rfl, rfl⟩⟩
  exact show (w.heap.push _)[w.heap.size]? = _ by simp
theorem ownL_of_row {w : World} {B g cap n : Nat} {l : List Off} (h : w.ownsRow B 43 5 (.slice (some ⟨g, 0, none⟩) n cap) n (offC l)) (_ : l.length = n) : OwnL w g l ∧ B ≤ g := by
  have hlt := World.ownsRow.lt h g rfl
  refine ⟨⟨hlt.2, fun j x hx i v hv => ⟨?_, ?_⟩⟩, hlt.1⟩
  · have hi : i < 5 := (List.getElem?_eq_some_iff.1 hv).1
    have := World.ownsRow.cells h (g := g) rfl (j * 5 + i) v (by rw [offC_get l j x hx i hi]; exact hv)
    rw [Addr.add_lit, Nat.zero_add] at this
    exact this
  · rcases h.2 with ⟨e, _⟩ | ⟨g', cap', cur, e, _, hb, _⟩
    · cases e
    · injection e with e1 _ _
      injection e1 with e1
      injection e1 with e1
      subst e1
      simp [World.frozen?, hb]
theorem offC_one (l : List Off) : ∀ u ∈ offC l, u.oneCell' = true := by
  induction l with
  | nil => intro u hu; cases hu
  | cons x l ih =>
    intro u hu
    rcases List.mem_append.1 hu with h | h
    · unfold cellsO at h
      simp only [List.mem_cons, List.not_mem_nil, or_false] at h
      rcases h with rfl | rfl | rfl | rfl | rfl <;> rfl
    · exact ih u h

theorem eq_nil (a : Addr) (n c : Nat) (w : World) : (binOp BinOp.eql 22 (.slice (some a) n c) (.slice none 0 0)).run Try.prog w = .ok (.bool false) w := by kernel_rfl

set_option maxRecDepth 100000 in
set_option maxHeartbeats 4000000 in
theorem cloneO_any (b o n c : Nat) (l : List Off) (w : World) (hL : OffsAt w (some ⟨b, o, none⟩) l) (hl : l.length = n) (h0 : 0 < n) (hn : n ≤ 1000) :
    Calls Try.prog 58 #[.slice (some ⟨b, o, none⟩) n c] w fun e w' => ∃ g cap, e = .returned (.slice (some ⟨g, 0, none⟩) n cap) ∧ OwnL w' g l ∧ w.heap.size ≤ g ∧ Below w.heap.size w w' := by
  have R0 := Lib.hid (row_empty5 w)
  have B0 : Hid (Below w.heap.size w (w.alloc (.cells #[] 43))) := (Below.refl _ _).alloc (Nat.le_refl _) _
  have NEWS : Hid (∀ j u, (offC l)[j]? = some u → (w.alloc (.cells #[] 43)).cell? ((⟨b, o, none⟩ : Addr).add j) = some u) := fun j u hu => by
    have hj : j < l.length * 5 := by rw [← offC_len]; exact (List.getElem?_eq_some_iff.1 hu).1
    have hq : j / 5 < l.length := by omega
    obtain ⟨x, hx⟩ : ∃ x, l[j / 5]? = some x := ⟨_, List.getElem?_eq_getElem hq⟩
    have e : j = j / 5 * 5 + j % 5 := by omega
    have hm : j % 5 < 5 := Nat.mod_lt _ (by omega)
    rw [e, offC_get l (j / 5) x hx _ hm] at hu
    obtain ⟨b', o', e1, ha, _⟩ := (hL.next B0.out).get hx
    cases e1
    rw [Addr.add_lit, e]
    rcases (show j % 5 = 0 ∨ j % 5 = 1 ∨ j % 5 = 2 ∨ j % 5 = 3 ∨ j % 5 = 4 by omega) with k | k | k | k | k <;> rw [k] at hu ⊢ <;> obtain rfl := Option.some.inj hu
    · exact ha.1
    · exact ha.2.1
    · exact ha.2.2.1
    · exact ha.2.2.2.1
    · exact ha.2.2.2.2
  have LN : Hid ((offC l).length = n * 5) := by show _ = _; rw [offC_len, hl]
  have ONE := Lib.hid (offC_one l)
  have HL := Lib.hid hl
  obtain ⟨i0, hi, hz0, hz1, hz2⟩ := info_parts info43
  have en := eq_nil ⟨b, o, none⟩ n c w
  clear hL hl
  go_enter Try.func58, Try.ntmps58
  go_wp2_with (at_builtin; refine wpList_append_own _ rfl _ _ 22 rfl w.heap.size 43 i0 _ 5 64 Try.underlying22 hi hz0 hz1 hz2 rfl (by decide) _ _ _ rfl R0.out ⟨b, o, none⟩ n c (offC l) rfl LN.out NEWS.out ONE.out (by unfold maxLen; omega) (by omega) (by simp) ?_; intro v' w1 hown1 hgrow1 _)
  rw [Nat.zero_add, List.nil_append] at hown1
  have B1 : Hid (Below w.heap.size w w1) := B0.out.grown hgrow1 (by simp) (fun j e => by cases e; exact Nat.le_refl _)
  rcases ownsRow_forms hown1 with ⟨_, e⟩ | ⟨g, cap, e⟩
  · omega
  subst e
  obtain ⟨hO, hg⟩ := ownL_of_row hown1 HL.out
  have OO := Lib.hid hO; have HG := Lib.hid hg
  clear hown1 hgrow1 hO hg
  go_wp2_with fail
  go_ret
  exact ⟨g, cap, rfl, OO.out, HG.out, B1.out⟩

end Go.Proofs.Ytchaihdbljkphaa
