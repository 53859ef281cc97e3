/-
  Format, for any list of numbers. No statement of the seat is proved here.
-/
import Derived.Test.YtbpoggdinefkeaaGreatDoorMm
namespace Go.Proofs.YtbpoggdinefkeaaGreatDoor
open Go Go.RowKit Go.Shelf

theorem join_dots : ∀ (ps : List (List UInt8)), Lib.join ps [46] = joinD ps
  | [] => by simp [Lib.join, joinD]
  | [p] => by simp [Lib.join, joinD]
  | p :: q :: ps => by
    have ih := join_dots (q :: ps)
    unfold Lib.join at ih ⊢
    rw [joinD_cons p (by simp), ← ih]
    simp [List.intercalate]

theorem Format_len (p : Option Addr) (n cap : Nat) (w : World) (h : n = 0 ∨ 6 < n) (hn : n ≤ 1000000000000) : Calls Tryz.prog 47 #[.slice p n cap] w fun e w' => e = .returned (.tuple #[.string ⟨#[]⟩, .int .i64 2]) ∧ w = w' := by
  rcases h with rfl | h
  · go_enter Tryz.func47, Tryz.ntmps47
    go_wp2
    go_ret2
    exact ⟨rfl, rfl⟩
  · have d1 : ((n : Int) == 0) = false := by rw [beq_eq_false_iff_ne]; omega
    go_enter Tryz.func47, Tryz.ntmps47
    go_wp2
    go_ret2
    exact ⟨rfl, rfl⟩

set_option maxRecDepth 100000 in
theorem make37 (n : Nat) (h1 : 1 ≤ n) (h6 : n ≤ 6) : ∀ w, (Instr.makeSlice 22 (.int .i64 n) (.int .i64 n)).run Tryz.prog w = .ok (.slice (some ⟨w.heap.size, 0, none⟩) n n) (w.alloc (.cells (Array.replicate n (.string ⟨#[]⟩)) 9)) := by
  have h : n = 1 ∨ n = 2 ∨ n = 3 ∨ n = 4 ∨ n = 5 ∨ n = 6 := by omega
  rcases h with rfl | rfl | rfl | rfl | rfl | rfl <;> (intro w; kernel_rfl)
/-- The cells of a new row. -/
theorem HoldsN.made (w : World) (n : Nat) (v : Value) (t : TypeId) : HoldsN n (w.alloc (.cells (Array.replicate n v) t)) w.heap.size (fun _ => v) := by
  refine ⟨by simp, fun i hi => ⟨?_, World.frozen?_alloc_new _ _ _ _⟩⟩
  rw [World.cell?_alloc_new]
  simp [hi]

/-- The texts of all numbers. -/
def txt' (ns : List Int) (j : Nat) : Value := .string ⟨(Lib.itoa (ns.getD j 0)).toArray⟩
/-- strings.Join over a row of texts of numbers. -/
theorem join_row {w : World} {bt : Nat} {ns : List Int} (h : HoldsN ns.length w bt (txt' ns)) (hg : GoodN ns) (h6 : ns.length ≤ 6) :
    Calls Tryz.prog 68 #[.slice (some ⟨bt, 0, none⟩) ns.length ns.length, .string ⟨#[46]⟩] w fun e w' => e = .returned (.string ⟨(textOf ns).toArray⟩) ∧ Below w.heap.size w w' := by
  have e1 : Lib.join ((ns.map (fun n => (⟨(Lib.itoa n).toArray⟩ : ByteArray))).map (·.data.toList)) (⟨#[46]⟩ : ByteArray).data.toList = textOf ns := by
    rw [List.map_map]
    show Lib.join (ns.map (fun n => (Lib.itoa n).toArray.toList)) [46] = _
    rw [join_dots]; simp [textOf]
  have hl := textOf_len hg
  have J := Tryz.strings_Join bt 0 ns.length (ns.map (fun n => (⟨(Lib.itoa n).toArray⟩ : ByteArray))) ⟨#[46]⟩ w ?_ h.1 (by simp; omega) (by simp) (by rw [e1]; omega)
  · rw [e1, List.length_map] at J
    exact J
  · intro j x hj
    rw [List.getElem?_map] at hj
    have hlt : j < ns.length := by
      rcases Nat.lt_or_ge j ns.length with k | k
      · exact k
      · rw [List.getElem?_eq_none k] at hj; cases hj
    rw [List.getElem?_eq_getElem hlt] at hj
    cases hj
    rw [Nat.zero_add, h.cell j hlt]
    unfold txt'
    simp [hlt]

/-- The texts of the first k numbers. -/
def txt (ns : List Int) (k : Nat) (j : Nat) : Value := if j < k then .string ⟨(Lib.itoa (ns.getD j 0)).toArray⟩ else .string ⟨#[]⟩
theorem txt_succ {n : Nat} {w : World} {b : Nat} {ns : List Int} {k : Nat} (h : HoldsN n w b (txt ns k)) (hk : k < n) : HoldsN n (w.setCell ⟨b, k, none⟩ (.string ⟨(Lib.itoa (ns.getD k 0)).toArray⟩)) b (txt ns (k + 1)) := by
  have h2 := h.put k hk (.string ⟨(Lib.itoa (ns.getD k 0)).toArray⟩)
  refine ⟨h2.1, fun i hi => ⟨(h2.2 i hi).1.trans (congrArg some ?_), (h2.2 i hi).2⟩⟩
  unfold txt
  by_cases e : i = k
  · subst e; simp
  · by_cases e2 : i < k
    · simp [e, e2, show i < k + 1 by omega]
    · simp [e, e2, show ¬ i < k + 1 by omega]

set_option maxRecDepth 100000 in
set_option maxHeartbeats 2000000 in
theorem Format_loop (b o cap m n : Nat) (ns : List Int) (R : Value) (w : World) (hE : Env w) (hc : ∀ j, j < ns.length → w.cell? ⟨b, o + j, none⟩ = some (.int .i64 (ns.getD j 0))) (hn : ns.length = n) (h1 : 1 ≤ n) (h6 : n ≤ 6) (hm : m ≤ n)
    (hg : ∀ j, j < m → 1 ≤ ns.getD j 0 ∧ ns.getD j 0 ≤ 999)
    (hR : (m = n ∧ R = .tuple #[.string ⟨(textOf ns).toArray⟩, .int .i64 0]) ∨ (m < n ∧ ¬ (1 ≤ ns.getD m 0 ∧ ns.getD m 0 ≤ 999) ∧ R = .tuple #[.string ⟨#[]⟩, .int .i64 2])) :
    Calls Tryz.prog 47 #[.slice (some ⟨b, o, none⟩) n cap] w fun e w' => e = .returned R ∧ Below w.heap.size w w' := by
  have d1 : ((n : Int) == 0) = false := by rw [beq_eq_false_iff_ne]; omega
  have d2 : decide (6 < (n : Int)) = false := by rw [decide_eq_false_iff_not]; omega
  have hmk := make37 n h1 h6
  have HC := Lib.hid hc; have HG := Lib.hid hg; have HR := Lib.hid hR; have HN := Lib.hid hn; have E0 := Lib.hid hE
  clear hc hg hR hn hE
  have T0 := Lib.hid (HoldsN.made w n (.string ⟨#[]⟩) 9)
  have B0 : Hid (Below w.heap.size w (w.alloc (.cells (Array.replicate n (.string ⟨#[]⟩)) 9))) := (Below.refl _ _).alloc (Nat.le_refl _) _
  go_enter Tryz.func47, Tryz.ntmps47
  go_wp2
  obtain ⟨bt, hbt⟩ : ∃ bt, bt = w.heap.size := ⟨_, rfl⟩
  rw [← hbt] at T0 ⊢
  have T1 : Hid (HoldsN n (w.alloc (.cells (Array.replicate n (.string ⟨#[]⟩)) 9)) bt (txt ns 0)) := T0.out
  clear T0 hmk
  have HBT := Lib.hid hbt
  clear hbt
  go_loopw [20] (fun i wr => ∃ k : Nat, k ≤ m ∧ i = .int .i64 k ∧ HoldsN n wr bt (txt ns k) ∧ Below w.heap.size w wr) (fun i _ => n - (intOf i).toNat)
  case atStart => exact ⟨0, Nat.zero_le _, rfl, T1.out, B0.out⟩
  case round =>
    obtain ⟨k, hk, rfl, hh, hb⟩ := hrel
    have T := Lib.hid hh
    have B := Lib.hid hb
    clear hh hb T1 B0
    by_cases hlt : k < n
    · have c1 : wr.cell? ⟨b, o + k, none⟩ = some (.int .i64 (ns.getD k 0)) := by
        have c := HC.out k (by have := HN.out; omega)
        exact (B.out.cell (p := ⟨b, o + k, none⟩) (World.block_lt_of_cell? w _ c)).trans c
      have c2 := T.out.cell k hlt
      have f2 := T.out.frozen k hlt
      obtain ⟨x, hx⟩ : ∃ x, x = ns.getD k 0 := ⟨_, rfl⟩
      rw [← hx] at c1
      by_cases hg : 1 ≤ x ∧ x ≤ 999
      · have g1 : (decide (1 ≤ x) && decide (x ≤ 999)) = true := by simp [hg.1, hg.2]
        have hkm : Hid (k + 1 ≤ m) := by
          rcases HR.out with ⟨rfl, _⟩ | ⟨h2, h3, _⟩
          · exact hlt
          · rcases Nat.lt_or_ge k m with h4 | h4
            · exact h4
            · obtain rfl : k = m := by omega
              rw [← hx] at h3; exact absurd hg h3
        have IT := Lib.hid (Tryz.strconv_Itoa x (by omega) (by omega) wr (E0.out.below B.out).tab)
        have S1 : Hid (∀ W, HoldsN n W bt (txt ns k) → HoldsN n (W.setCell ⟨bt, k, none⟩ (.string ⟨(Lib.itoa x).toArray⟩)) bt (txt ns (k + 1))) := by
          intro W hW; rw [hx]; exact txt_succ hW hlt
        obtain ⟨t, ht⟩ : ∃ t, t = Lib.itoa x := ⟨_, rfl⟩
        rw [← ht] at IT S1
        clear hg hx ht
        go_wp2_with fail
        refine (isNumber_any _ _).mono ?_
        rintro e w2 ⟨rfl, rfl⟩
        rw [g1]
        go_wp2_with fail
        refine IT.out.mono ?_
        rintro e w3 ⟨rfl, kk, os, rfl⟩
        have B2 : Hid (Below w.heap.size w (Sort.grow (wr.drewN kk) os)) := B.out.trans ((grow_below wr kk os).mono B.out.size)
        have T2 := Lib.hid (T.out.next (grow_below wr kk os))
        obtain ⟨V, hV⟩ : ∃ V, V = Sort.grow (wr.drewN kk) os := ⟨_, rfl⟩
        rw [← hV] at B2 T2 ⊢
        clear hV c1 c2 f2
        have c2 := T2.out.cell k hlt
        have f2 := T2.out.frozen k hlt
        go_wp2
        go_roundw
        case rel => exact ⟨k + 1, hkm.out, by go_num, S1.out _ T2.out, B2.out.setCell (p := ⟨bt, k, none⟩) (by show w.heap.size ≤ bt; rw [HBT.out]; exact Nat.le_refl _) _⟩
        case measure => simp [intOf]; omega
      · have g1 : (decide (1 ≤ x) && decide (x ≤ 999)) = false := by
          rw [Bool.and_eq_false_iff]; simp only [decide_eq_false_iff_not]; omega
        have HQ : Hid (R = .tuple #[.string ⟨#[]⟩, .int .i64 2]) := by
          rcases HR.out with ⟨h2, _⟩ | ⟨h2, h3, h4⟩
          · rw [hx] at hg; exact absurd (HG.out k (by omega)) hg
          · exact h4
        clear hg hx
        go_wp2_with fail
        refine (isNumber_any _ _).mono ?_
        rintro e w2 ⟨rfl, rfl⟩
        rw [g1]
        go_wp2_with fail
        go_ret2
        rw [HQ.out]
        exact ⟨rfl, B.out⟩
    · obtain rfl : k = n := by omega
      have HQ : Hid (R = .tuple #[.string ⟨(textOf ns).toArray⟩, .int .i64 0]) := by
        rcases HR.out with ⟨_, h2⟩ | ⟨h2, _⟩
        · exact h2
        · omega
      have HM : Hid (GoodN ns) := by
        rcases HR.out with ⟨rfl, _⟩ | ⟨h2, _⟩
        · intro n hn
          obtain ⟨j, hj, rfl⟩ := List.getElem_of_mem hn
          have := HG.out j (by have := HN.out; omega)
          simpa [List.getD, hj] using this
        · omega
      have J := Lib.hid (join_row (w := wr) (bt := bt) (ns := ns) (by rw [HN.out]; exact ⟨T.out.1, fun i hi => ⟨(T.out.cell i hi).trans (by unfold txt txt'; rw [if_pos hi]), T.out.frozen i hi⟩⟩) HM.out (by rw [HN.out]; exact h6))
      rw [HN.out] at J
      go_wp2_with fail
      refine J.out.mono ?_
      rintro e w2 ⟨rfl, hb⟩
      have B2 := Lib.hid (B.out.trans (hb.mono B.out.size))
      clear hb
      go_wp2_with fail
      go_ret2
      rw [HQ.out]
      exact ⟨rfl, B2.out⟩

theorem first_not (P : Nat → Prop) : ∀ n, ∃ m, m ≤ n ∧ (∀ j, j < m → P j) ∧ (m = n ∨ ¬ P m)
  | 0 => ⟨0, Nat.le_refl _, fun _ h => absurd h (Nat.not_lt_zero _), .inl rfl⟩
  | n + 1 => by
    obtain ⟨m, h1, h2, h3⟩ := first_not P n
    rcases h3 with rfl | h3
    · by_cases hp : P m
      · exact ⟨m + 1, Nat.le_refl _, fun j hj => by
          rcases (show j < m ∨ j = m by omega) with k | rfl
          · exact h2 j k
          · exact hp, .inl rfl⟩
      · exact ⟨m, by omega, h2, .inr hp⟩
    · exact ⟨m, by omega, h2, .inr h3⟩

theorem Format_ok (p : Option Addr) (cap n : Nat) (ns : List Int) (w : World) (hn : ns.length = n) (hE : Env w) (hA : IntsAt w p ns) (hg : GoodL ns) :
    Calls Tryz.prog 47 #[.slice p n cap] w fun e w' => e = .returned (.tuple #[.string ⟨(textOf ns).toArray⟩, .int .i64 0]) ∧ Below w.heap.size w w' := by
  rcases hA with rfl | ⟨b, o, rfl, hc⟩
  · exact absurd rfl hg.ne
  · refine Format_loop b o cap n n ns _ w hE hc hn (by rw [← hn]; exact hg.1) (by rw [← hn]; exact hg.2.1) (Nat.le_refl _) (fun j hj => ?_) (.inl ⟨rfl, rfl⟩)
    have hj' : j < ns.length := by omega
    have := hg.2.2 ns[j] (List.getElem_mem hj')
    simpa [List.getD, hj'] using this
theorem Format_bad (p : Option Addr) (cap n : Nat) (ns : List Int) (w : World) (hn : ns.length = n) (hE : Env w) (hA : IntsAt w p ns) (hg : ¬ GoodL ns) (hl : n ≤ 1000000000000) :
    Calls Tryz.prog 47 #[.slice p n cap] w fun e w' => e = .returned (.tuple #[.string ⟨#[]⟩, .int .i64 2]) ∧ Below w.heap.size w w' := by
  by_cases h0 : n = 0 ∨ 6 < n
  · exact (Format_len p n cap w h0 hl).mono fun e w' ⟨h1, h2⟩ => ⟨h1, by rw [h2]; exact Below.refl _ _⟩
  rcases hA with rfl | ⟨b, o, rfl, hc⟩
  · exact absurd (.inl hn.symm) h0
  · obtain ⟨m, h1, h2, h3⟩ := first_not (fun j => 1 ≤ ns.getD j 0 ∧ ns.getD j 0 ≤ 999) n
    refine Format_loop b o cap m n ns _ w hE hc hn (by omega) (by omega) h1 h2 (.inr ?_)
    rcases h3 with rfl | h3
    · refine absurd ⟨by omega, by omega, fun x hx => ?_⟩ hg
      obtain ⟨j, hj, rfl⟩ := List.getElem_of_mem hx
      have := h2 j (by omega)
      simpa [List.getD, hj] using this
    · refine ⟨?_, h3, rfl⟩
      rcases Nat.lt_or_ge m n with h4 | h4
      · exact h4
      · obtain rfl : m = n := by omega
        refine absurd ⟨by omega, by omega, fun x hx => ?_⟩ hg
        obtain ⟨j, hj, rfl⟩ := List.getElem_of_mem hx
        have := h2 j (by omega)
        simpa [List.getD, hj] using this

end Go.Proofs.YtbpoggdinefkeaaGreatDoor
