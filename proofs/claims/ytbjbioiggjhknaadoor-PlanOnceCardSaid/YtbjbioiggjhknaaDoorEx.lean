/-
  The plans of the chapter's example, made by the law's own function. No statement of the seat is proved here.
-/
import Derived.Test.YtbjbioiggjhknaaDoorFo
import Derived.Test.YtbjbioiggjhknaaDoorFj
namespace Go.Proofs.YtbjbioiggjhknaaDoor
open Go Go.RowKit

theorem info44 : (Tryd.prog.info? 36).map (fun i => (i.zero, i.size, i.bytes)) = some (some (.agg #[.string ⟨#[]⟩, .string ⟨#[]⟩]), 2, 32) := by kernel_rfl
def Pr.cells (y : Pr) : List Value := [.string y.c, .string y.t]
def prC : List Pr → List Value
  | [] => []
  | y :: l => y.cells ++ prC l
theorem prC_snoc (y : Pr) : ∀ l : List Pr, prC (l ++ [y]) = prC l ++ y.cells
  | [] => by simp [prC]
  | z :: l => by
    show z.cells ++ prC (l ++ [y]) = (z.cells ++ prC l) ++ y.cells
    rw [prC_snoc y l, List.append_assoc]
theorem prC_get : ∀ (l : List Pr) (i : Nat) (y : Pr), l[i]? = some y → ∀ j, j < 2 → (prC l)[i * 2 + j]? = y.cells[j]?
  | [], i, y, h, j, hj => by simp at h
  | z :: l, 0, y, h, j, hj => by
    obtain rfl : z = y := by simpa using h
    show (z.cells ++ prC l)[0 * 2 + j]? = _
    rw [Nat.zero_mul, Nat.zero_add, List.getElem?_append_left (by simp [Pr.cells]; omega)]
  | z :: l, i + 1, y, h, j, hj => by
    show (z.cells ++ prC l)[(i + 1) * 2 + j]? = _
    rw [List.getElem?_append_right (by simp [Pr.cells]; omega), show (i + 1) * 2 + j - z.cells.length = i * 2 + j by simp [Pr.cells]; omega]
    exact prC_get l i y (by simpa using h) j hj
theorem prs_of_row {w : World} {B T : Nat} {v : Value} {l : List Pr} (h : w.ownsRow B T 2 v l.length (prC l)) : ∃ p cap, v = .slice p l.length cap ∧ PrsAt w p l := by
  rcases Go.Joins.ownsRow_forms h with ⟨rfl, hn⟩ | ⟨g, cap, rfl⟩
  · have : l = [] := List.length_eq_zero_iff.1 hn
    subst this
    exact ⟨none, 0, rfl, Or.inl rfl⟩
  · refine ⟨_, cap, rfl, Or.inr ⟨g, 0, rfl, fun i x hi => ?_⟩⟩
    have z := fun j (hj : j < 2) => prC_get l i x hi j hj
    have c := fun j v (hv : (prC l)[j]? = some v) => h.cells (g := g) rfl j v hv
    have c2 : ∀ j v, (prC l)[j]? = some v → w.cell? ⟨g, 0 + j, none⟩ = some v := fun j v hv => by
      have := c j v hv
      rwa [Addr.add_lit] at this
    exact ⟨c2 _ _ (z 0 (by omega)), by have := c2 _ _ (z 1 (by omega)); rwa [← Nat.add_assoc] at this⟩
theorem pr_news (w : World) (y : Pr) (t : TypeId) : ∀ j u, y.cells[j]? = some u → (w.alloc (.cells y.cells.toArray t)).cell? ((⟨w.heap.size, 0, none⟩ : Addr).add j) = some u := fun j u h => by
  rw [Addr.add_lit, Nat.zero_add, World.cell?_alloc_new]
  simpa using h
theorem pr_one (y : Pr) : ∀ u ∈ y.cells, u.oneCell' = true := by
  intro v hv
  simp only [Pr.cells, List.mem_cons, List.not_mem_nil, or_false] at hv
  rcases hv with h | h <;> subst h <;> rfl

set_option maxRecDepth 100000 in
set_option maxHeartbeats 8000000 in
theorem class62_any (g n cap : Nat) (L : List Pr) (w : World) (hT : ∀ y ∈ L, y.t = ⟨#[84]⟩) (hS : ∀ i y, L[i]? = some y → w.cell? ⟨g, i, none⟩ = some (.string y.c)) (hl : L.length = n) (hn : n ≤ 1000) :
    Calls Tryd.prog 19 #[.slice (some ⟨g, 0, none⟩) n cap] w fun e w' => ∃ v, e = .returned v ∧ w'.ownsRow w.heap.size 36 2 v L.length (prC L) ∧ Below w.heap.size w w' := by
  obtain ⟨i0, hi, hz0, hz1, hz2⟩ := info_parts info44
  have HS := Lib.hid hS; have HL := Lib.hid hl; have HT := Lib.hid hT
  clear hS hl hT
  go_enter Tryd.func19, Tryd.ntmps19
  go_wp2_with fail
  go_loopw [3, 8] (fun v i wr => ∃ k : Nat, k ≤ n ∧ i = .int .i64 k ∧ wr.ownsRow w.heap.size 36 2 v (L.take k).length (prC (L.take k)) ∧ Below w.heap.size w wr) (fun _ i _ => n - (intOf i).toNat)
  case atStart => exact ⟨0, Nat.zero_le _, rfl, World.ownsRow_nil _ _ _ _, Below.refl _ _⟩
  case round =>
    obtain ⟨k, hk, rfl, hrow, hb⟩ := hrel
    have NB := Lib.hid hb
    have RW := Lib.hid hrow
    by_cases hkn : k < n
    · obtain ⟨y, hy⟩ : ∃ y, L[k]? = some y := ⟨_, List.getElem?_eq_getElem (by rw [HL.out]; exact hkn)⟩
      have q0 := cell_next (HS.out k y hy) hb
      have zb := World.block_lt_of_cell? wr _ q0
      have ht := HT.out y (List.mem_of_getElem? hy)
      have HTk : Hid (L.take (k + 1) = L.take k ++ [y]) := by
        obtain ⟨h1, h2⟩ := List.getElem?_eq_some_iff.1 hy
        show _ = _
        rw [List.take_succ_eq_append_getElem h1, h2]
      have HLen : (L.take k).length ≤ k := by rw [List.length_take]; omega
      have hkd : decide ((k : Int) < (n : Int)) = true := by simp; omega
      obtain ⟨yc, yt⟩ := y
      dsimp only at ht q0
      subst ht
      have zB := NB.out.size
      clear hb hrow hy
      go_wp2_with (at_builtin; refine wpList_append_own _ rfl _ _ 31 rfl w.heap.size 36 i0 _ 2 32 Tryd.underlying31 hi hz0 hz1 hz2 rfl (by decide) _ _ _ rfl (RW.out.alloc _) ⟨wr.heap.size, 0, none⟩ 1 1 (Pr.cells ⟨yc, ⟨#[84]⟩⟩) rfl rfl (pr_news wr ⟨yc, ⟨#[84]⟩⟩ 36) (pr_one ⟨yc, ⟨#[84]⟩⟩) (by unfold maxLen; omega) (by omega) (by simp; omega) ?_; intro v' w3 hown' hgrow _)
      have B3 : Hid (Below w.heap.size w w3) := (NB.out.alloc zB _).grown hgrow (by simp; omega) (fun k e => (RW.out.lt k e).1)
      have R3 : Hid (w3.ownsRow w.heap.size 36 2 v' (L.take (k + 1)).length (prC (L.take (k + 1)))) := by
        show w3.ownsRow _ _ _ _ _ _
        rw [HTk.out, prC_snoc, List.length_append]
        exact hown'
      clear hown' hgrow
      go_wp2_with fail
      go_roundw
      case rel => exact ⟨k + 1, hkn, by go_num, R3.out, B3.out⟩
      case measure => simp [intOf]; omega
    · have hkd : decide ((k : Int) < (n : Int)) = false := by simp; omega
      have R3 : Hid (wr.ownsRow w.heap.size 36 2 u3 L.length (prC L)) := by
        have := RW.out
        rw [show k = n by omega, ← HL.out, List.take_length] at this
        exact this
      clear hb hrow
      go_wp2_with fail
      go_ret
      exact ⟨_, rfl, R3.out, NB.out⟩

end Go.Proofs.YtbjbioiggjhknaaDoor
