/-
  The reference's classes of a version. No statement of the seat is proved here.
-/
import Derived.Test.YtbjbioiggjhknaaGreatDoorRn
import Derived.Test.YtbjbioiggjhknaaGreatDoorRcm
import Derived.Test.YtbjbioiggjhknaaGreatDoorNc
import Derived.Test.YtbjbioiggjhknaaGreatDoorIn
import Derived.Test.YtbjbioiggjhknaaGreatDoorCc
namespace Go.Proofs.YtbjbioiggjhknaaGreatDoor
open Go Go.RowKit


theorem cls_3 {cs : List Pr} {y : Pr} (hy : y ∈ cs) (h : isC y.c = false) : clsE cs = 3 := by
  unfold clsE
  rw [if_pos (List.any_eq_true.2 ⟨y, hy, by rw [h]; rfl⟩)]
theorem any_no {α : Type} {l : List α} {p : α → Bool} (h : ∀ y ∈ l, p y = false) : ¬ l.any p = true := by
  rw [List.any_eq_true]
  rintro ⟨y, hy, e⟩
  rw [h y hy] at e
  cases e
theorem cls_4 {cs : List Pr} {y : Pr} (h1 : ∀ y ∈ cs, isC y.c = true) (hy : y ∈ cs) (h : nameB (bs y.t) = false) : clsE cs = 4 := by
  unfold clsE
  rw [if_neg (any_no fun y hy => by rw [h1 y hy]; rfl), if_pos (List.any_eq_true.2 ⟨y, hy, by rw [h]; rfl⟩)]
theorem cls_5 {cs : List Pr} (h1 : ∀ y ∈ cs, isC y.c = true) (h2 : ∀ y ∈ cs, nameB (bs y.t) = true) (h3 : incr (cs.map (·.c)) = false) : clsE cs = 5 := by
  unfold clsE
  rw [if_neg (any_no fun y hy => by rw [h1 y hy]; rfl), if_neg (any_no fun y hy => by rw [h2 y hy]; rfl), if_pos h3]
theorem cls_7 {cs : List Pr} {y : Pr} (h1 : ∀ y ∈ cs, isC y.c = true) (h2 : ∀ y ∈ cs, nameB (bs y.t) = true) (h3 : incr (cs.map (·.c)) = true) (hy : y ∈ cs) (h : lacks cs y = true) : clsE cs = 7 := by
  unfold clsE
  rw [if_neg (any_no fun y hy => by rw [h1 y hy]; rfl), if_neg (any_no fun y hy => by rw [h2 y hy]; rfl), if_neg (by rw [h3]; simp)]
  exact if_pos (List.any_eq_true.2 ⟨y, hy, h⟩ : cs.any (lacks cs) = true)
theorem cls_0 {cs : List Pr} (h1 : ∀ y ∈ cs, isC y.c = true) (h2 : ∀ y ∈ cs, nameB (bs y.t) = true) (h3 : incr (cs.map (·.c)) = true) (h4 : ∀ y ∈ cs, lacks cs y = false) : clsE cs = 0 := by
  unfold clsE
  rw [if_neg (any_no fun y hy => by rw [h1 y hy]; rfl), if_neg (any_no fun y hy => by rw [h2 y hy]; rfl), if_neg (by rw [h3]; simp)]
  exact if_neg (any_no (p := lacks cs) h4)
theorem not_adj {l : List Pr} {i : Nat} (h : ¬ adj l i) : incr (l.map (·.c)) = false := by
  rw [← Bool.not_eq_true, incr_iff]
  exact fun k => h (k i)
theorem all_of {l : List Pr} {P : Pr → Prop} (h : ∀ j y, j < l.length → l[j]? = some y → P y) : ∀ y ∈ l, P y := fun y hy => by
  obtain ⟨j, hj⟩ := List.getElem?_of_mem hy
  exact h j y (List.getElem?_eq_some_iff.1 hj).1 hj

set_option maxRecDepth 100000 in
set_option maxHeartbeats 8000000 in
theorem ClassesR_any (x : Pln) (w : World) (hE : Env w) (hP : PlnOk w x) (hn : x.cs.length ≤ 1000000000) (hz : Szs x.cs) :
    Calls Tryz.prog 50 #[x.val] w fun e w' => e = .returned (.int .i64 (clsE x.cs)) ∧ Below w.heap.size w w' := by
  have P0 := Lib.hid hP; have E0 := Lib.hid hE; have HZ := Lib.hid hz
  obtain ⟨W1, hW1⟩ : ∃ W1, W1 = w.alloc (.cells x.cells 51) := ⟨_, rfl⟩
  obtain ⟨b, hb⟩ : ∃ b, b = w.heap.size := ⟨_, rfl⟩
  have B1 : Hid (Below w.heap.size w W1) := by rw [hW1]; exact (Below.refl _ _).alloc (Nat.le_refl _) _
  have X1 : Hid (PlnAt W1 b 0 x) := by rw [hW1, hb]; exact pln_new w x 51
  have C1 := Lib.hid (fun y (hy : y ∈ x.cs) w2 (h : Below w.heap.size w w2) => GoodR_any y.c w2 (E0.out.below h) (HZ.out y hy).1)
  have C2 := Lib.hid (fun y (hy : y ∈ x.cs) w2 (_h : Below w.heap.size w w2) => NameR_any y.t w2 (HZ.out y hy).2)
  have C3 := Lib.hid (fun y (hy : y ∈ x.cs) z (hz : z ∈ x.cs) w2 (h : Below w.heap.size w w2) => CompareR_any y.c z.c w2 (E0.out.below h) (HZ.out y hy).1 (HZ.out z hz).1)
  have C4 := Lib.hid (fun y (hy : y ∈ x.cs) w2 (h : Below w.heap.size w w2) => ParentR_any y.c w2 (E0.out.below h) (HZ.out y hy).1)
  have C5 := Lib.hid (fun c w2 (h : Below w.heap.size w w2) => HasR_any x c w2 (P0.out.next h) hn)
  unfold Pln.val at C5 ⊢
  unfold Pln.cells at hW1
  obtain ⟨n, hl⟩ : ∃ n, x.cs.length = n := ⟨_, rfl⟩
  rw [hl] at hW1 hn C5 ⊢
  have HL := Lib.hid hl
  obtain ⟨R, hR⟩ : ∃ R, R = clsE x.cs := ⟨_, rfl⟩
  have HR := Lib.hid hR
  rw [← hR]
  have XC : Hid (∀ wr, PlnAt wr b 0 x → wr.cell? ⟨b, 3, none⟩ = some (.slice x.cp n x.cc)) := fun wr h => by have := h.2.2.2.1; rwa [HL.out] at this
  clear hP hE hz hl hR
  go_enter Tryz.func50, Tryz.ntmps50
  go_wp2_with fail
  rw [← hW1, ← hb]
  clear hW1 hb
  go_wp2_with fail
  go_loopw [3] (fun i wr => ∃ k : Nat, k ≤ n ∧ i = .int .i64 k ∧ (∀ j y, j < k → x.cs[j]? = some y → isC y.c = true) ∧ Below w.heap.size w wr ∧ PlnAt wr b 0 x) (fun i _ => n - (intOf i).toNat)
  case atStart => exact ⟨0, Nat.zero_le _, rfl, fun j y h => absurd h (Nat.not_lt_zero _), B1.out, X1.out⟩
  case round =>
    obtain ⟨k, hk, rfl, hs, hbw, hx⟩ := hrel
    have S3 := Lib.hid hs; have B3 := Lib.hid hbw; have X3 := Lib.hid hx
    have c3 := XC.out _ hx
    have zb0 : b < wr.heap.size := hx.lt
    by_cases hkn : k < n
    · obtain ⟨y, hy⟩ : ∃ y, x.cs[k]? = some y := ⟨_, List.getElem?_eq_getElem (by rw [HL.out]; exact hkn)⟩
      obtain ⟨blk, off, hnp, hpc⟩ := (P0.out.1.next hbw).get hy
      have y0 := hpc.1; have y1 := hpc.2
      have zb := hpc.lt
      have HY := Lib.hid hy
      have D1 := Lib.hid (C1.out y (List.mem_of_getElem? hy) wr hbw)
      obtain ⟨Q, hQ⟩ : ∃ Q, Q = isC y.c := ⟨_, rfl⟩
      rw [← hQ] at D1
      have HQ := Lib.hid hQ
      have hkd : decide ((k : Int) < (n : Int)) = true := by simp; omega
      rw [hnp] at c3
      clear hs hbw hx hpc hy hnp hQ
      go_wp2_with fail
      refine D1.out.mono ?_
      rintro e w2 ⟨rfl, hb⟩
      have B4 := Lib.hid (B3.out.trans (hb.mono B3.out.size)); have X4 := Lib.hid (X3.out.next hb)
      clear hb D1 c3 y0 y1
      cases Q with
      | false =>
        have hRt : Hid (R = 3) := HR.out.trans (cls_3 (List.mem_of_getElem? HY.out) HQ.out.symm)
        go_wp2_with fail
        go_ret
        rw [hRt.out]
        exact ⟨rfl, B4.out⟩
      | true =>
        have SN : Hid (∀ j y, j < k + 1 → x.cs[j]? = some y → isC y.c = true) := fun j z hj hz => by
          rcases (show j < k ∨ j = k by omega) with g | g
          · exact S3.out j z g hz
          · subst g
            obtain rfl : y = z := Option.some.inj (HY.out.symm.trans hz)
            exact HQ.out.symm
        go_wp2_with fail
        go_roundw
        case rel => exact ⟨k + 1, hkn, by go_num, SN.out, B4.out, X4.out⟩
        case measure => simp [intOf]; omega
    · have hkd : decide ((k : Int) < (n : Int)) = false := by simp; omega
      have SI : Hid (∀ y ∈ x.cs, isC y.c = true) := all_of fun j y hj hy => S3.out j y (by have := HL.out; omega) hy
      clear hs hbw hx
      go_wp2_with fail
      clear hkd c3
      go_loopw [4] (fun i wr => ∃ k : Nat, k ≤ n ∧ i = .int .i64 k ∧ (∀ j y, j < k → x.cs[j]? = some y → nameB (bs y.t) = true) ∧ Below w.heap.size w wr ∧ PlnAt wr b 0 x) (fun i _ => n - (intOf i).toNat)
      case atStart => exact ⟨0, Nat.zero_le _, rfl, fun j y h => absurd h (Nat.not_lt_zero _), B3.out, X3.out⟩
      case round =>
        obtain ⟨k, hk, rfl, hs, hbw, hx⟩ := hrel
        have S5 := Lib.hid hs; have B5 := Lib.hid hbw; have X5 := Lib.hid hx
        have c3 := XC.out _ hx
        have zb0 : b < wr.heap.size := hx.lt
        by_cases hkn : k < n
        · obtain ⟨y, hy⟩ : ∃ y, x.cs[k]? = some y := ⟨_, List.getElem?_eq_getElem (by rw [HL.out]; exact hkn)⟩
          obtain ⟨blk, off, hnp, hpc⟩ := (P0.out.1.next hbw).get hy
          have y0 := hpc.1; have y1 := hpc.2
          have zb := hpc.lt
          have HY := Lib.hid hy
          have D1 := Lib.hid (C2.out y (List.mem_of_getElem? hy) wr hbw)
          obtain ⟨Q, hQ⟩ : ∃ Q, Q = nameB (bs y.t) := ⟨_, rfl⟩
          rw [← hQ] at D1
          have HQ := Lib.hid hQ
          have hkd : decide ((k : Int) < (n : Int)) = true := by simp; omega
          rw [hnp] at c3
          clear hs hbw hx hpc hy hnp hQ
          go_wp2_with fail
          refine D1.out.mono ?_
          rintro e w2 ⟨rfl, hb⟩
          have B6 := Lib.hid (B5.out.trans (hb.mono B5.out.size)); have X6 := Lib.hid (X5.out.next hb)
          clear hb D1 c3 y0 y1
          cases Q with
          | false =>
            have hRt : Hid (R = 4) := HR.out.trans (cls_4 SI.out (List.mem_of_getElem? HY.out) HQ.out.symm)
            go_wp2_with fail
            go_ret
            rw [hRt.out]
            exact ⟨rfl, B6.out⟩
          | true =>
            have SN : Hid (∀ j y, j < k + 1 → x.cs[j]? = some y → nameB (bs y.t) = true) := fun j z hj hz => by
              rcases (show j < k ∨ j = k by omega) with g | g
              · exact S5.out j z g hz
              · subst g
                obtain rfl : y = z := Option.some.inj (HY.out.symm.trans hz)
                exact HQ.out.symm
            go_wp2_with fail
            go_roundw
            case rel => exact ⟨k + 1, hkn, by go_num, SN.out, B6.out, X6.out⟩
            case measure => simp [intOf]; omega
        · have hkd : decide ((k : Int) < (n : Int)) = false := by simp; omega
          have SI2 : Hid (∀ y ∈ x.cs, nameB (bs y.t) = true) := all_of fun j y hj hy => S5.out j y (by have := HL.out; omega) hy
          clear hs hbw hx
          go_wp2_with fail
          clear hkd c3
          go_loopw [5] (fun i wr => ∃ k : Nat, 1 ≤ k ∧ k ≤ n + 1 ∧ i = .int .i64 k ∧ (∀ j, j + 1 < k → adj x.cs j) ∧ Below w.heap.size w wr ∧ PlnAt wr b 0 x) (fun i _ => n + 1 - (intOf i).toNat)
          case atStart => exact ⟨1, Nat.le_refl _, by omega, rfl, fun j h => by omega, B5.out, X5.out⟩
          case round =>
            obtain ⟨k, hk1, hk, rfl, hs, hbw, hx⟩ := hrel
            have S7 := Lib.hid hs; have B7 := Lib.hid hbw; have X7 := Lib.hid hx
            have c3 := XC.out _ hx
            have zb0 : b < wr.heap.size := hx.lt
            by_cases hkn : k < n
            · obtain ⟨z, hz⟩ : ∃ y, x.cs[k - 1]? = some y := ⟨_, List.getElem?_eq_getElem (by rw [HL.out]; omega)⟩
              obtain ⟨y, hy⟩ : ∃ y, x.cs[k]? = some y := ⟨_, List.getElem?_eq_getElem (by rw [HL.out]; omega)⟩
              obtain ⟨blk, off, hnp, hpc⟩ := (P0.out.1.next hbw).get hy
              obtain ⟨blk2, off2, hnp2, hpc2⟩ := (P0.out.1.next hbw).get hz
              obtain ⟨hbb, hoo⟩ : blk2 = blk ∧ off2 = off := by
                rw [hnp] at hnp2
                simp at hnp2
                exact ⟨hnp2.1.symm, hnp2.2.symm⟩
              subst hbb
              subst hoo
              have y0 := hpc.1; have y1 := hpc.2
              have z0 := hpc2.1; have z1 := hpc2.2
              have zb := hpc.lt
              have AD : Hid (adj x.cs (k - 1) ↔ cmpC z.c y.c < 0) := by
                show adj x.cs (k - 1) ↔ cmpC z.c y.c < 0
                unfold adj
                rw [hz, show k - 1 + 1 = k by omega, hy]
              have D1 := Lib.hid (fun w2 h => C3.out z (List.mem_of_getElem? hz) y (List.mem_of_getElem? hy) w2 h)
              obtain ⟨Q, hQ⟩ : ∃ Q, Q = cmpC z.c y.c := ⟨_, rfl⟩
              rw [← hQ] at D1 AD
              have hkd : decide ((k : Int) < (n : Int)) = true := by simp; omega
              have hj1 : (0 : Int) ≤ (k : Int) - 1 := by omega
              have hj2 : (k : Int) - 1 < (n : Int) := by omega
              have hj3 : ((k : Int) - 1).toNat = k - 1 := by omega
              have hj4 : IntKind.i64.wrap ((k : Int) - 1) = (k : Int) - 1 := IntWalk.i64_in _ (by omega)
              have hk2 : (1 : Int) ≤ (k : Int) := by omega
              have hkz : (k : Int) < (n : Int) := by omega
              have hkn2 : k ≤ n := by omega
              rw [hnp] at c3
              have HC := Lib.hid (show (wr.cell? ⟨b, 3, none⟩ = some (.slice (some ⟨blk2, off2, none⟩) n x.cc) ∧ wr.cell? ⟨blk2, off2 + (k - 1) * 2, none⟩ = some (.string z.c) ∧ wr.cell? ⟨blk2, off2 + k * 2, none⟩ = some (.string y.c)) from ⟨c3, z0, y0⟩)
              clear hs hbw hx hpc hpc2 hy hz hnp hnp2 hQ
              go_wp2_with fail
              go_region_held3 (fun v => (v.cell? ⟨b, 3, none⟩ = some (.slice (some ⟨blk2, off2, none⟩) n x.cc) ∧ v.cell? ⟨blk2, off2 + (k - 1) * 2, none⟩ = some (.string z.c) ∧ v.cell? ⟨blk2, off2 + k * 2, none⟩ = some (.string y.c))) (first | exact HC.out | assumption)
                ((first
                  | (go_at_call 79; refine (D1.out _ (below_drewN B7.out 1)).mono ?_; rintro e w2 ⟨E, rfl, hb⟩; have B8 : Hid (Below w.heap.size w w2) := (below_drewN B7.out 1).trans (hb.mono B7.out.size); have X8 : Hid (PlnAt w2 b 0 x) := PlnAt.next (show PlnAt wr.drew b 0 x from X7.out) hb; have hs2 : (w2.cell? ⟨b, 3, none⟩ = some (.slice (some ⟨blk2, off2, none⟩) n x.cc) ∧ w2.cell? ⟨blk2, off2 + (k - 1) * 2, none⟩ = some (.string z.c) ∧ w2.cell? ⟨blk2, off2 + k * 2, none⟩ = some (.string y.c)) := ⟨cell_next (w := wr.drew) HC.out.1 hb, cell_next (w := wr.drew) HC.out.2.1 hb, cell_next (w := wr.drew) HC.out.2.2 hb⟩)))
              clear hb hs2 D1 c3 y0 y1 z0 z1
              by_cases ho : 0 ≤ Q
              · have ho2 : decide (Q ≥ 0) = true := by simp; omega
                have hRt : Hid (R = 5) := HR.out.trans (cls_5 SI.out SI2.out (not_adj (i := k - 1) (by rw [AD.out]; omega)))
                clear ho
                go_wp2_with fail
                go_ret
                rw [hRt.out]
                exact ⟨rfl, B8.out⟩
              · have ho2 : decide (Q ≥ 0) = false := by simp; omega
                have SN : Hid (∀ j, j + 1 < k + 1 → adj x.cs j) := fun j hj => by
                  rcases (show j + 1 < k ∨ j = k - 1 by omega) with g | g
                  · exact S7.out j g
                  · subst g
                    exact AD.out.2 (by omega)
                clear ho
                go_wp2_with fail
                go_roundw
                case rel => exact ⟨k + 1, by omega, by omega, by go_num, SN.out, B8.out, X8.out⟩
                case measure => simp [intOf]; omega
            · have hkd : decide ((k : Int) < (n : Int)) = false := by simp; omega
              have SI3 : Hid (incr (x.cs.map (·.c)) = true) := (incr_iff _).2 fun i => by
                rcases (show i + 1 < n ∨ n ≤ i + 1 by omega) with g | g
                · exact S7.out i (by omega)
                · unfold adj
                  rw [List.getElem?_eq_none (l := x.cs) (i := i + 1) (by rw [HL.out]; exact g)]
                  cases x.cs[i]? <;> trivial
              clear hs hbw hx
              go_wp2_with fail
              clear hkd c3
              go_loopw [8] (fun i wr => ∃ k : Nat, k ≤ n ∧ i = .int .i64 k ∧ (∀ j y, j < k → x.cs[j]? = some y → lacks x.cs y = false) ∧ Below w.heap.size w wr ∧ PlnAt wr b 0 x) (fun i _ => n - (intOf i).toNat)
              case atStart => exact ⟨0, Nat.zero_le _, rfl, fun j y h => absurd h (Nat.not_lt_zero _), B7.out, X7.out⟩
              case round =>
                obtain ⟨k, hk, rfl, hs, hbw, hx⟩ := hrel
                have S9 := Lib.hid hs; have B9 := Lib.hid hbw; have X9 := Lib.hid hx
                have c3 := XC.out _ hx
                have zb0 : b < wr.heap.size := hx.lt
                by_cases hkn : k < n
                · obtain ⟨y, hy⟩ : ∃ y, x.cs[k]? = some y := ⟨_, List.getElem?_eq_getElem (by rw [HL.out]; exact hkn)⟩
                  obtain ⟨blk, off, hnp, hpc⟩ := (P0.out.1.next hbw).get hy
                  have y0 := hpc.1; have y1 := hpc.2
                  have zb := hpc.lt
                  have HY := Lib.hid hy
                  have D1 := Lib.hid (C4.out y (List.mem_of_getElem? hy) wr hbw)
                  have SN : Hid (lacks x.cs y = false → ∀ j y, j < k + 1 → x.cs[j]? = some y → lacks x.cs y = false) := fun e j z hj hz => by
                    rcases (show j < k ∨ j = k by omega) with g | g
                    · exact S9.out j z g hz
                    · subst g
                      obtain rfl : y = z := Option.some.inj (HY.out.symm.trans hz)
                      exact e
                  have hkd : decide ((k : Int) < (n : Int)) = true := by simp; omega
                  rw [hnp] at c3
                  clear hs hbw hx hpc hy hnp
                  cases hp : par y.c with
                  | none =>
                    have hlk : Hid (lacks x.cs y = false) := by show _ = _; unfold lacks; rw [hp]
                    have SN2 := Lib.hid (SN.out hlk.out)
                    rw [hp] at D1
                    unfold optV at D1
                    clear hp
                    go_wp2_with fail
                    refine D1.out.mono ?_
                    rintro e w2 ⟨rfl, hb⟩
                    have Ba := Lib.hid (B9.out.trans (hb.mono B9.out.size)); have Xa := Lib.hid (X9.out.next hb)
                    clear hb D1 c3 y0 y1
                    go_wp2_with fail
                    go_roundw
                    case rel => exact ⟨k + 1, hkn, by go_num, SN2.out, Ba.out, Xa.out⟩
                    case measure => simp [intOf]; omega
                  | some q =>
                    have hlk : Hid (lacks x.cs y = !has x.cs q) := by show _ = _; unfold lacks; rw [hp]
                    rw [hp] at D1
                    unfold optV at D1
                    clear hp
                    go_wp2_with fail
                    refine D1.out.mono ?_
                    rintro e w2 ⟨rfl, hb⟩
                    have Ba := Lib.hid (B9.out.trans (hb.mono B9.out.size)); have Xa := Lib.hid (X9.out.next hb)
                    have D2 := Lib.hid (C5.out q w2 Ba.out)
                    obtain ⟨Q, hQ⟩ : ∃ Q, Q = has x.cs q := ⟨_, rfl⟩
                    rw [← hQ] at D2 hlk
                    have a0 := Xa.out.1; have a1 := Xa.out.2.1; have a2 := Xa.out.2.2.1; have a3 := XC.out _ Xa.out; have a4 := Xa.out.2.2.2.2
                    clear hb D1 c3 y0 y1 hQ
                    go_wp2_with fail
                    refine D2.out.mono ?_
                    rintro e w3 ⟨rfl, hb⟩
                    have Bb := Lib.hid (Ba.out.trans (hb.mono Ba.out.size)); have Xb := Lib.hid (Xa.out.next hb)
                    clear hb D2 a0 a1 a2 a3 a4
                    cases Q with
                    | false =>
                      have hRt : Hid (R = 7) := HR.out.trans (cls_7 SI.out SI2.out SI3.out (List.mem_of_getElem? HY.out) hlk.out)
                      go_wp2_with fail
                      go_ret
                      rw [hRt.out]
                      exact ⟨rfl, Bb.out⟩
                    | true =>
                      have SN2 := Lib.hid (SN.out hlk.out)
                      go_wp2_with fail
                      go_roundw
                      case rel => exact ⟨k + 1, hkn, by go_num, SN2.out, Bb.out, Xb.out⟩
                      case measure => simp [intOf]; omega
                · have hkd : decide ((k : Int) < (n : Int)) = false := by simp; omega
                  have hRt : Hid (R = 0) := HR.out.trans (cls_0 SI.out SI2.out SI3.out (all_of fun j y hj hy => S9.out j y (by have := HL.out; omega) hy))
                  clear hs hbw hx
                  go_wp2_with fail
                  go_ret
                  rw [hRt.out]
                  exact ⟨rfl, B9.out⟩

end Go.Proofs.YtbjbioiggjhknaaGreatDoor
