/-
  Find in the code and in the reference; small functions of the reference: Few, has, SameInts. No statement of the seat is proved here.
-/
import Derived.Test.YtchaihdbljkphaaKit
namespace Go.Proofs.Ytchaihdbljkphaa
open Go Go.RowKit Go.Maps Go.Joins

/-- What Find answers. -/
def fixV (l : List Off) (n : Int) : Int := match fix l n with | some i => i | none => -1
theorem fix_at {l : List Off} {n : Int} {k : Nat} {x : Off} (h : ∀ j y, j < k → l[j]? = some y → y.id ≠ n) (hx : l[k]? = some x) (e : x.id = n) : fix l n = some k := by
  unfold fix
  rw [List.findIdx?_eq_some_iff_getElem]
  obtain ⟨h1, h2⟩ := List.getElem?_eq_some_iff.1 hx
  refine ⟨h1, by rw [h2]; exact decide_eq_true e, fun j hj => ?_⟩
  have := h j (l[j]) hj (List.getElem?_eq_getElem (by omega))
  simpa using this
theorem fix_no {l : List Off} {n : Int} (h : ∀ j y, j < l.length → l[j]? = some y → y.id ≠ n) : fix l n = none := by
  unfold fix
  rw [List.findIdx?_eq_none_iff]
  intro x hx
  obtain ⟨j, hj⟩ := List.getElem?_of_mem hx
  have := h j x (List.getElem?_eq_some_iff.1 hj).1 hj
  simpa using this
theorem fix_fnd {l : List Off} {n : Int} {x : Off} (h : fnd l n = some x) : ∃ k, fix l n = some k ∧ l[k]? = some x := by
  unfold fnd at h
  rw [List.find?_eq_some_iff_getElem] at h
  obtain ⟨h1, k, hk, h2, h3⟩ := h
  refine ⟨k, fix_at (x := x) (fun j y hj hy e => ?_) (by rw [List.getElem?_eq_getElem hk, h2]) (of_decide_eq_true h1), by rw [List.getElem?_eq_getElem hk, h2]⟩
  have := h3 j hj
  obtain ⟨a, b⟩ := List.getElem?_eq_some_iff.1 hy
  rw [b] at this
  simp [e] at this
theorem fix_none {l : List Off} {n : Int} (h : fnd l n = none) : fix l n = none :=
  fix_no fun _ _ _ hy e => fnd_none.1 h _ (List.mem_of_getElem? hy) e
theorem fixV_some {l : List Off} {n : Int} {x : Off} (h : fnd l n = some x) : ∃ k : Nat, fixV l n = k ∧ l[k]? = some x ∧ k < l.length := by
  obtain ⟨k, h1, h2⟩ := fix_fnd h
  exact ⟨k, by unfold fixV; rw [h1], h2, (List.getElem?_eq_some_iff.1 h2).1⟩
theorem fixV_none {l : List Off} {n : Int} (h : fnd l n = none) : fixV l n = -1 := by unfold fixV; rw [fix_none h]

set_option maxRecDepth 100000 in
set_option maxHeartbeats 4000000 in
theorem findCl_any (x : Off) (id : Int) (b : Nat) (w : World) (hb : w.cell? ⟨b, 0, none⟩ = some (.int .i64 id)) :
    Calls Try.prog 52 #[.agg #[.int .i64 x.id, .string x.nm, .int .i64 x.fr, .int .i64 x.un, .slice x.np x.nx.length x.nc], .pointer (some ⟨b, 0, none⟩)] w fun e w' => e = .returned (.bool (x.id == id)) ∧ Below w.heap.size w w' := by
  have y := World.block_lt_of_cell? w _ hb
  go_enter Try.func52, Try.ntmps52
  go_wp2_with fail
  go_ret
  exact ⟨rfl, (Below.refl _ _).alloc (Nat.le_refl _) _⟩
set_option maxRecDepth 100000 in
set_option maxHeartbeats 4000000 in
theorem IndexFn_any (p : Option Addr) (n c : Nat) (l : List Off) (id : Int) (b : Nat) (w : World) (hL : OffsAt w p l) (hl : l.length = n) (hn : n ≤ 1000) (hb : w.cell? ⟨b, 0, none⟩ = some (.int .i64 id)) :
    Calls Try.prog 51 #[.slice p n c, .func (.func 52) #[] #[.pointer (some ⟨b, 0, none⟩)]] w fun e w' => e = .returned (.int .i64 (fixV l id)) ∧ Below w.heap.size w w' := by
  obtain ⟨R, hR⟩ : ∃ R, fixV l id = R := ⟨_, rfl⟩
  rw [hR]
  have HR := Lib.hid hR
  have HL := Lib.hid hl
  have LV := Lib.hid (fun (v : World) (h : Below w.heap.size w v) => hL.next h)
  have BL := World.block_lt_of_cell? w _ hb
  have BV := Lib.hid (fun (v : World) (h : Below w.heap.size w v) => (h.cell (p := ⟨b, 0, none⟩) BL).trans hb)
  clear hL hl hR hb BL
  go_enter Try.func51, Try.ntmps51
  go_wp2_with fail
  go_loopw [8] (fun i wr => ∃ k : Nat, k ≤ n ∧ i = .int .i64 k ∧ (∀ j y, j < k → l[j]? = some y → y.id ≠ id) ∧ Below w.heap.size w wr) (fun i _ => n - iv i)
  case atStart => exact ⟨0, Nat.zero_le _, rfl, fun j y hj => absurd hj (Nat.not_lt_zero _), Below.refl _ _⟩
  case round =>
    obtain ⟨k, hk, rfl, hA, hB⟩ := hrel
    have NA := Lib.hid hA; have NB := Lib.hid hB
    clear hA hB
    by_cases hkn : k < n
    · obtain ⟨x, hx⟩ : ∃ x, l[k]? = some x := ⟨_, List.getElem?_eq_getElem (by rw [HL.out]; exact hkn)⟩
      obtain ⟨blk, off, hnp, ha, _⟩ := (LV.out wr NB.out).get hx
      have q0 := ha.1; have q1 := ha.2.1; have q2 := ha.2.2.1; have q3 := ha.2.2.2.1; have q4 := ha.2.2.2.2
      have zb := ha.lt
      have hkd : decide ((k : Int) < (n : Int)) = true := by simp; omega
      have CL := Lib.hid (findCl_any x id b wr (BV.out wr NB.out))
      have HX := Lib.hid hx
      clear ha hx
      rw [hnp]
      go_wp2_with fail
      refine CL.out.mono ?_
      rintro e w2 ⟨rfl, hb⟩
      have NB2 := Lib.hid (NB.out.trans (hb.mono NB.out.size))
      clear hb q0 q1 q2 q3 q4 zb CL
      by_cases he : x.id = id
      · have E : R = k := by rw [← HR.out]; unfold fixV; rw [fix_at NA.out HX.out he]
        have d1 : (x.id == id) = true := by rw [he]; simp
        subst E
        rw [d1]
        clear he d1
        go_wp2_with fail
        go_ret
        exact ⟨rfl, NB2.out⟩
      · have d1 : (x.id == id) = false := by simp [he]
        rw [d1]
        have NA2 : Hid (∀ j y, j < k + 1 → l[j]? = some y → y.id ≠ id) := by
          show ∀ j y, j < k + 1 → l[j]? = some y → y.id ≠ id
          intro j y hj hy
          rcases (show j < k ∨ j = k by omega) with g | g
          · exact NA.out j y g hy
          · subst g
            obtain rfl := Option.some.inj (HX.out.symm.trans hy)
            exact he
        clear he d1
        go_wp2_with fail
        go_roundw
        case rel => exact ⟨k + 1, by omega, by go_num, NA2.out, NB2.out⟩
        case measure => simp only [iv]; omega
    · obtain rfl : k = n := by omega
      have hkd : decide ((k : Int) < (k : Int)) = false := by simp
      have E : R = -1 := by
        rw [← HR.out]
        unfold fixV
        rw [fix_no (fun j y hj hy => NA.out j y (by rw [← HL.out]; exact hj) hy)]
      subst E
      go_wp2_with fail
      go_ret
      exact ⟨rfl, NB.out⟩
set_option maxRecDepth 100000 in
theorem Find_any (p : Option Addr) (n c : Nat) (l : List Off) (id : Int) (w : World) (hL : OffsAt w p l) (hl : l.length = n) (hn : n ≤ 1000) :
    Calls Try.prog 26 #[.slice p n c, .int .i64 id] w fun e w' => e = .returned (.int .i64 (fixV l id)) ∧ Below w.heap.size w w' := by
  have B1 : Hid (Below w.heap.size w (w.alloc (.cells #[.int .i64 id] 3))) := (Below.refl _ _).alloc (Nat.le_refl _) _
  have CC := Lib.hid (IndexFn_any p n c l id w.heap.size (w.alloc (.cells #[.int .i64 id] 3)) (hL.next B1.out) hl hn (World.cell?_alloc_new w _ 3 0))
  clear hL hl
  go_enter Try.func26, Try.ntmps26
  go_wp2_with fail
  refine CC.out.mono ?_
  rintro e w2 ⟨rfl, hb⟩
  have B2 := Lib.hid (B1.out.trans (hb.mono B1.out.size))
  clear hb CC
  go_wp2_with fail
  go_ret
  exact ⟨rfl, B2.out⟩

set_option maxRecDepth 100000 in
set_option maxHeartbeats 4000000 in
theorem refFind_any (p : Option Addr) (n c : Nat) (l : List Off) (id : Int) (w : World) (hL : OffsAt w p l) (hl : l.length = n) (hn : n ≤ 1000) :
    Calls Try.prog 32 #[.slice p n c, .int .i64 id] w fun e w' => e = .returned (.int .i64 (fixV l id)) ∧ w = w' := by
  obtain ⟨R, hR⟩ : ∃ R, fixV l id = R := ⟨_, rfl⟩
  rw [hR]
  have HR := Lib.hid hR
  have HL := Lib.hid hl
  have LV := Lib.hid hL
  clear hL hl hR
  go_enter Try.func32, Try.ntmps32
  go_wp2_with fail
  go_loop [5] (fun i => ∃ k : Nat, k ≤ n ∧ i = .int .i64 k ∧ (∀ j y, j < k → l[j]? = some y → y.id ≠ id)) (fun i => n - iv i)
  case atStart => exact ⟨0, Nat.zero_le _, rfl, fun j y hj => absurd hj (Nat.not_lt_zero _)⟩
  case round =>
    obtain ⟨k, hk, rfl, hA⟩ := hrel
    have NA := Lib.hid hA
    clear hA
    by_cases hkn : k < n
    · obtain ⟨x, hx⟩ : ∃ x, l[k]? = some x := ⟨_, List.getElem?_eq_getElem (by rw [HL.out]; exact hkn)⟩
      obtain ⟨blk, off, hnp, ha, _⟩ := LV.out.get hx
      have q0 := ha.1
      have zb := ha.lt
      have hkd : decide ((k : Int) < (n : Int)) = true := by simp; omega
      have HX := Lib.hid hx
      clear ha hx
      rw [hnp]
      by_cases he : x.id = id
      · have E : R = k := by rw [← HR.out]; unfold fixV; rw [fix_at NA.out HX.out he]
        have d1 : (x.id == id) = true := by rw [he]; simp
        subst E
        clear he
        go_wp2_with fail
        go_ret
        exact ⟨rfl, rfl⟩
      · have d1 : (x.id == id) = false := by simp [he]
        have NA2 : Hid (∀ j y, j < k + 1 → l[j]? = some y → y.id ≠ id) := by
          show ∀ j y, j < k + 1 → l[j]? = some y → y.id ≠ id
          intro j y hj hy
          rcases (show j < k ∨ j = k by omega) with g | g
          · exact NA.out j y g hy
          · subst g
            obtain rfl := Option.some.inj (HX.out.symm.trans hy)
            exact he
        clear he
        go_wp2_with fail
        go_round
        case rel => exact ⟨k + 1, by omega, by go_num, NA2.out⟩
        case measure => simp only [iv]; omega
    · obtain rfl : k = n := by omega
      have hkd : decide ((k : Int) < (k : Int)) = false := by simp
      have E : R = -1 := by
        rw [← HR.out]
        unfold fixV
        rw [fix_no (fun j y hj hy => NA.out j y (by rw [← HL.out]; exact hj) hy)]
      subst E
      go_wp2_with fail
      go_ret
      exact ⟨rfl, rfl⟩

/-- A list small enough for the statements. -/
def FewO (l : List Off) : Prop := l.length ≤ 37 ∧ (l.length ≤ 12 ∨ 32 < l.length) ∧ ∀ x ∈ l, x.nx.length ≤ 10 ∧ x.nm.size ≤ 100

/-- What Few answers: a Boolean, and true only for such a list. -/
def FewA (l : List Off) (w : World) (e : Ending) (w' : World) : Prop := ∃ B, e = .returned (.bool B) ∧ (B = true → FewO l) ∧ w = w'
theorem fewA_no {l : List Off} {w w' : World} {e : Ending} (h : e = .returned (.bool false)) (h2 : w = w') : FewA l w e w' := ⟨false, h, (fun h => by cases h), h2⟩
theorem fewA_yes {l : List Off} {w w' : World} {e : Ending} (h : e = .returned (.bool true)) (hl : FewO l) (h2 : w = w') : FewA l w e w' := ⟨true, h, fun _ => hl, h2⟩

set_option maxRecDepth 100000 in
set_option maxHeartbeats 4000000 in
theorem few_any (p : Option Addr) (n c : Nat) (l : List Off) (w : World) (hL : OffsAt w p l) (hl : l.length = n) (hn : (n : Int) ≤ 4000000000000) (hF : ∀ x ∈ l, FitO x) :
    Calls Try.prog 10 #[.slice p n c] w fun e w' => FewA l w e w' := by
  have HL := Lib.hid hl
  have LV := Lib.hid hL
  have FF := Lib.hid hF
  clear hL hl hF
  by_cases h1 : 12 < n ∧ n ≤ 32
  · obtain ⟨h1, h2⟩ := h1
    have d1 : decide ((n : Int) > 12) = true := decide_eq_true (by omega)
    have d1' : decide (12 < n) = true := decide_eq_true h1
    have d2 : decide ((n : Int) ≤ 32) = true := decide_eq_true (by omega)
    have d2' : decide (n ≤ 32) = true := decide_eq_true h2
    go_enter Try.func10, Try.ntmps10
    go_wp2_with fail
    go_ret
    exact fewA_no rfl rfl
  by_cases h2 : 37 < n
  · have d1 : decide ((n : Int) > 12) = true := decide_eq_true (by omega)
    have d1' : decide (12 < n) = true := decide_eq_true (by omega)
    have d2 : decide ((n : Int) ≤ 32) = false := decide_eq_false (by omega)
    have d2' : decide (n ≤ 32) = false := decide_eq_false (by omega)
    have d3 : decide ((n : Int) > 37) = true := decide_eq_true (by omega)
    have d3' : decide (37 < n) = true := decide_eq_true h2
    clear h1 h2
    go_enter Try.func10, Try.ntmps10
    go_wp2_with fail
    go_ret
    exact fewA_no rfl rfl
  have key : (decide ((n : Int) > 12) = true ∧ decide ((n : Int) ≤ 32) = false) ∨ decide ((n : Int) > 12) = false := by
    by_cases g : 12 < n
    · exact .inl ⟨decide_eq_true (by omega), decide_eq_false (by omega)⟩
    · exact .inr (decide_eq_false (by omega))
  have d3 : decide ((n : Int) > 37) = false := decide_eq_false (by omega)
  have d3' : decide (37 < n) = false := decide_eq_false h2
  have SZ : Hid (l.length ≤ 37 ∧ (l.length ≤ 12 ∨ 32 < l.length)) := by
    show _ ∧ _
    rw [HL.out]
    omega
  rcases key with ⟨d1, d2⟩ | d1
  · have d1' : decide (12 < n) = true := by rw [← d1]; exact decide_eq_decide.2 (by omega)
    have d2' : decide (n ≤ 32) = false := by rw [← d2]; exact decide_eq_decide.2 (by omega)
    clear h1 h2
    go_enter Try.func10, Try.ntmps10
    go_wp2_with fail
    go_loop [3] (fun i => ∃ k : Nat, k ≤ n ∧ i = .int .i64 k ∧ (∀ j y, j < k → l[j]? = some y → y.nx.length ≤ 10 ∧ y.nm.size ≤ 100)) (fun i => n - iv i)
    case atStart => exact ⟨0, Nat.zero_le _, rfl, fun j y hj => absurd hj (Nat.not_lt_zero _)⟩
    case round =>
      obtain ⟨k, hk, rfl, hA⟩ := hrel
      have NA := Lib.hid hA
      clear hA
      by_cases hkn : k < n
      · obtain ⟨x, hx⟩ : ∃ x, l[k]? = some x := ⟨_, List.getElem?_eq_getElem (by rw [HL.out]; exact hkn)⟩
        obtain ⟨blk, off, hnp, ha, _⟩ := LV.out.get hx
        have q1 := ha.2.1; have q4 := ha.2.2.2.2
        have zb := ha.lt
        have hkd : decide ((k : Int) < (n : Int)) = true := by simp; omega
        have HX := Lib.hid hx
        have fx := FF.out x (List.mem_of_getElem? hx)
        have fx1 := fx.2.2.2.2.1
        have fx2 := fx.2.2.2.2.2
        obtain ⟨m, hm⟩ : ∃ m, x.nx.length = m := ⟨_, rfl⟩
        rw [hm] at q4 fx1
        have HM := Lib.hid hm
        clear ha hx fx hm
        rw [hnp]
        by_cases g1 : 10 < m
        · have e1 : decide ((m : Int) > 10) = true := decide_eq_true (by omega)
          have e1' : decide (10 < m) = true := decide_eq_true g1
          clear g1
          go_wp2_with fail
          go_ret
          exact fewA_no rfl rfl
        · have e1 : decide ((m : Int) > 10) = false := decide_eq_false (by omega)
          have e1' : decide (10 < m) = false := decide_eq_false g1
          by_cases g2 : 100 < x.nm.size
          · have e2 : decide ((x.nm.size : Int) > 100) = true := decide_eq_true (by omega)
            have e2' : decide (100 < x.nm.size) = true := decide_eq_true g2
            clear g1 g2
            go_wp2_with fail
            go_ret
            exact fewA_no rfl rfl
          · have e2 : decide ((x.nm.size : Int) > 100) = false := decide_eq_false (by omega)
            have e2' : decide (100 < x.nm.size) = false := decide_eq_false g2
            have NA2 : Hid (∀ j y, j < k + 1 → l[j]? = some y → y.nx.length ≤ 10 ∧ y.nm.size ≤ 100) := by
              show ∀ j y, j < k + 1 → l[j]? = some y → y.nx.length ≤ 10 ∧ y.nm.size ≤ 100
              intro j y hj hy
              rcases (show j < k ∨ j = k by omega) with g | g
              · exact NA.out j y g hy
              · subst g
                obtain rfl := Option.some.inj (HX.out.symm.trans hy)
                have := HM.out
                omega
            clear g1 g2
            go_wp2_with fail
            go_round
            case rel => exact ⟨k + 1, by omega, by go_num, NA2.out⟩
            case measure => simp only [iv]; omega
      · obtain rfl : k = n := by omega
        have hkd : decide ((k : Int) < (k : Int)) = false := by simp
        have FIN : Hid (FewO l) := ⟨SZ.out.1, SZ.out.2, fun x hx => by
          obtain ⟨j, hj⟩ := List.getElem?_of_mem hx
          exact NA.out j x (by rw [← HL.out]; exact (List.getElem?_eq_some_iff.1 hj).1) hj⟩
        go_wp2_with fail
        go_ret
        exact fewA_yes rfl FIN.out rfl
  · have d1' : decide (12 < n) = false := by rw [← d1]; exact decide_eq_decide.2 (by omega)
    clear h1 h2
    go_enter Try.func10, Try.ntmps10
    go_wp2_with fail
    go_loop [3] (fun i => ∃ k : Nat, k ≤ n ∧ i = .int .i64 k ∧ (∀ j y, j < k → l[j]? = some y → y.nx.length ≤ 10 ∧ y.nm.size ≤ 100)) (fun i => n - iv i)
    case atStart => exact ⟨0, Nat.zero_le _, rfl, fun j y hj => absurd hj (Nat.not_lt_zero _)⟩
    case round =>
      obtain ⟨k, hk, rfl, hA⟩ := hrel
      have NA := Lib.hid hA
      clear hA
      by_cases hkn : k < n
      · obtain ⟨x, hx⟩ : ∃ x, l[k]? = some x := ⟨_, List.getElem?_eq_getElem (by rw [HL.out]; exact hkn)⟩
        obtain ⟨blk, off, hnp, ha, _⟩ := LV.out.get hx
        have q1 := ha.2.1; have q4 := ha.2.2.2.2
        have zb := ha.lt
        have hkd : decide ((k : Int) < (n : Int)) = true := by simp; omega
        have HX := Lib.hid hx
        have fx := FF.out x (List.mem_of_getElem? hx)
        have fx1 := fx.2.2.2.2.1
        have fx2 := fx.2.2.2.2.2
        obtain ⟨m, hm⟩ : ∃ m, x.nx.length = m := ⟨_, rfl⟩
        rw [hm] at q4 fx1
        have HM := Lib.hid hm
        clear ha hx fx hm
        rw [hnp]
        by_cases g1 : 10 < m
        · have e1 : decide ((m : Int) > 10) = true := decide_eq_true (by omega)
          have e1' : decide (10 < m) = true := decide_eq_true g1
          clear g1
          go_wp2_with fail
          go_ret
          exact fewA_no rfl rfl
        · have e1 : decide ((m : Int) > 10) = false := decide_eq_false (by omega)
          have e1' : decide (10 < m) = false := decide_eq_false g1
          by_cases g2 : 100 < x.nm.size
          · have e2 : decide ((x.nm.size : Int) > 100) = true := decide_eq_true (by omega)
            have e2' : decide (100 < x.nm.size) = true := decide_eq_true g2
            clear g1 g2
            go_wp2_with fail
            go_ret
            exact fewA_no rfl rfl
          · have e2 : decide ((x.nm.size : Int) > 100) = false := decide_eq_false (by omega)
            have e2' : decide (100 < x.nm.size) = false := decide_eq_false g2
            have NA2 : Hid (∀ j y, j < k + 1 → l[j]? = some y → y.nx.length ≤ 10 ∧ y.nm.size ≤ 100) := by
              show ∀ j y, j < k + 1 → l[j]? = some y → y.nx.length ≤ 10 ∧ y.nm.size ≤ 100
              intro j y hj hy
              rcases (show j < k ∨ j = k by omega) with g | g
              · exact NA.out j y g hy
              · subst g
                obtain rfl := Option.some.inj (HX.out.symm.trans hy)
                have := HM.out
                omega
            clear g1 g2
            go_wp2_with fail
            go_round
            case rel => exact ⟨k + 1, by omega, by go_num, NA2.out⟩
            case measure => simp only [iv]; omega
      · obtain rfl : k = n := by omega
        have hkd : decide ((k : Int) < (k : Int)) = false := by simp
        have FIN : Hid (FewO l) := ⟨SZ.out.1, SZ.out.2, fun x hx => by
          obtain ⟨j, hj⟩ := List.getElem?_of_mem hx
          exact NA.out j x (by rw [← HL.out]; exact (List.getElem?_eq_some_iff.1 hj).1) hj⟩
        go_wp2_with fail
        go_ret
        exact fewA_yes rfl FIN.out rfl

end Go.Proofs.Ytchaihdbljkphaa
