/-
  What the reference checks offices for; Check and Good of the reference. No statement of the seat is proved here.
-/
import Derived.Test.YtchaihdbljkphaaRf
import Derived.Deep.RegionHeld3
namespace Go.Proofs.Ytchaihdbljkphaa
open Go Go.RowKit Go.Maps Go.Joins

theorem hold4w {w w' : World} {a b c d : Addr} {p q r s : Value} (h : w.cell? a = some p ∧ w.cell? b = some q ∧ w.cell? c = some r ∧ w.cell? d = some s) (hb : Below w.heap.size w w') :
    w'.cell? a = some p ∧ w'.cell? b = some q ∧ w'.cell? c = some r ∧ w'.cell? d = some s :=
  ⟨cell_next h.1 hb, cell_next h.2.1 hb, cell_next h.2.2.1 hb, cell_next h.2.2.2 hb⟩

set_option maxRecDepth 100000 in
set_option maxHeartbeats 8000000 in
theorem succ_any (p : Option Addr) (n c : Nat) (l : List Off) (x : Off) (w : World) (hL : OffsAt w p l) (hl : l.length = n) (hn : n ≤ 1000) (hN : IntsAt w x.np x.nx) (hS : x.nx.length ≤ 8) :
    Calls Try.prog 77 #[.slice p n c, .agg #[.int .i64 x.id, .string x.nm, .int .i64 x.fr, .int .i64 x.un, .slice x.np x.nx.length x.nc]] w fun e w' => e = .returned (.int .i64 (nxtE l x)) ∧ Below w.heap.size w w' := by
  obtain ⟨R, hR⟩ : ∃ R, nxtE l x = R := ⟨_, rfl⟩
  have HR := Lib.hid hR
  have ON := off_new w x 43
  obtain ⟨m, hm⟩ : ∃ m, x.nx.length = m := ⟨_, rfl⟩
  have HM := Lib.hid hm
  rw [hR, hm]
  rw [hm] at ON hS
  have HL := Lib.hid hl
  obtain ⟨w1, hw1⟩ : ∃ w1, w1 = w.alloc (.cells #[.int .i64 x.id, .string x.nm, .int .i64 x.fr, .int .i64 x.un, .slice x.np m x.nc] 43) := ⟨_, rfl⟩
  have W1 : Hid (Below w.heap.size w w1) := by
    show Below _ _ _
    rw [hw1]
    exact (Below.refl _ _).alloc (Nat.le_refl _) _
  have LV := Lib.hid (fun (v : World) (h : Below w1.heap.size w1 v) => (hL.next W1.out).next h)
  have NN := Lib.hid (fun (v : World) (h : Below w1.heap.size w1 v) => (hN.next W1.out).next h)
  rw [← hw1] at ON
  have XX := Lib.hid (fun (v : World) (h : Below w1.heap.size w1 v) => ON.next h)
  obtain ⟨z0, hz0⟩ : ∃ z0, z0 = w.heap.size := ⟨_, rfl⟩
  rw [← hz0] at XX
  have HZ0 := Lib.hid hz0
  clear ON hL hN hR hm hl
  go_enter Try.func77, Try.ntmps77
  go_wp2_with fail
  rw [← hw1, ← hz0]
  clear hw1 hz0
  go_loopw [5, 6] (fun i _ wr => ∃ k : Nat, k ≤ m ∧ i = .int .i64 k ∧ (x.nx.take k).Nodup ∧ Below w1.heap.size w1 wr) (fun i _ _ => m - iv i)
  case atStart => exact ⟨0, Nat.zero_le _, rfl, by simp, Below.refl _ _⟩
  case round =>
    obtain ⟨k, hk, rfl, hD, hB⟩ := hrel
    have NB := Lib.hid hB; have ND := Lib.hid hD
    clear hB hD
    have q0 := (XX.out wr NB.out).2.2.2.2
    rw [HM.out] at q0
    have zb := World.block_lt_of_cell? wr _ q0
    by_cases hkn : k < m
    · obtain ⟨z, hz⟩ : ∃ z, x.nx[k]? = some z := ⟨_, List.getElem?_eq_getElem (by rw [HM.out]; exact hkn)⟩
      have HZ := Lib.hid hz
      have hkd : decide ((k : Int) < (m : Int)) = true := by simp; omega
      have NB0 := Lib.hid NB.out
      clear hz NB
      go_wp2_with fail
      clear q0 zb
      go_loopw [6] (fun i wq => ∃ j : Nat, j ≤ k ∧ i = .int .i64 j ∧ (∀ t y, t < j → x.nx[t]? = some y → y ≠ z) ∧ Below w1.heap.size w1 wq) (fun i _ => k - iv i)
      case atStart => exact ⟨0, Nat.zero_le _, rfl, fun t y ht => absurd ht (Nat.not_lt_zero _), NB0.out⟩
      case round =>
        obtain ⟨j, hj, rfl, hA, hB⟩ := hrel
        have NB := Lib.hid hB; have NA := Lib.hid hA
        clear hB hA NB0
        by_cases hjk : j < k
        · obtain ⟨y, hy⟩ : ∃ y, x.nx[j]? = some y := ⟨_, List.getElem?_eq_getElem (by rw [HM.out]; omega)⟩
          obtain ⟨b1, o1, e1, h1⟩ := (NN.out wr NB.out).get HZ.out
          obtain ⟨b2, o2, e2, h2⟩ := (NN.out wr NB.out).get hy
          have e3 := e1.symm.trans e2
          cases e3
          have q0 := (XX.out wr NB.out).2.2.2.2
          rw [HM.out, e1] at q0
          have zb := World.block_lt_of_cell? wr _ q0
          have zb2 := World.block_lt_of_cell? wr _ h1
          have hkd2 : decide ((j : Int) < (k : Int)) = true := by simp; omega
          have k1 : (0 : Int) ≤ (k : Int) := by omega
          have k2 : (k : Int) < (m : Int) := by omega
          have k3 : (0 : Int) ≤ (j : Int) := by omega
          have k4 : (j : Int) < (m : Int) := by omega
          have k5 : j < m := by omega
          have HY := Lib.hid hy
          clear hy e1 e2
          by_cases he : y = z
          · have d1 : (y == z) = true := by rw [he]; simp
            have E : R = 6 := by
              rw [← HR.out]
              refine nxt_two (not_nodup HZ.out ?_)
              rw [← he]
              exact List.mem_of_getElem? (i := j) (by rw [List.getElem?_take, if_pos hjk]; exact HY.out)
            subst E
            clear he
            go_wp2_with fail
            go_quiet (fail)
            go_wp2_with fail
            go_ret
            exact ⟨rfl, W1.out.trans ((below_drewN NB.out _).mono W1.out.size)⟩
          · have d1 : (y == z) = false := by simp [he]
            have NA2 : Hid (∀ t q, t < j + 1 → x.nx[t]? = some q → q ≠ z) := by
              show ∀ t q, t < j + 1 → x.nx[t]? = some q → q ≠ z
              intro t q ht hq
              rcases (show t < j ∨ t = j by omega) with g | g
              · exact NA.out t q g hq
              · subst g
                obtain rfl := Option.some.inj (HY.out.symm.trans hq)
                exact he
            clear he
            go_wp2_with fail
            go_quiet (fail)
            go_wp2_with fail
            go_roundw
            case rel => exact ⟨j + 1, by omega, by go_num, NA2.out, below_drewN NB.out _⟩
            case measure => simp only [iv]; omega
        · obtain rfl : j = k := by omega
          have hkd2 : decide ((j : Int) < (j : Int)) = false := by simp
          have ND2 := Lib.hid (nodup_take HZ.out ND.out (fun hm => by
            obtain ⟨t, ht⟩ := List.getElem?_of_mem hm
            rw [List.getElem?_take] at ht
            split at ht
            · rename_i g; exact NA.out t z g ht rfl
            · cases ht))
          have NB1 := Lib.hid NB.out
          go_wp2_with fail
          go_roundw
          case rel => exact ⟨j + 1, by omega, by go_num, ND2.out, NB1.out⟩
          case measure => simp only [iv]; omega
    · obtain rfl : k = m := by omega
      have hkd : decide ((k : Int) < (k : Int)) = false := by simp
      have ND2 : Hid (x.nx.Nodup) := by
        show List.Nodup _
        have := ND.out
        rw [← HM.out, List.take_length] at this
        exact this
      have NB0 := Lib.hid NB.out
      clear ND NB
      go_wp2_with fail
      clear q0 zb
      go_loopw [7] (fun i wq => ∃ j : Nat, j ≤ k ∧ i = .int .i64 j ∧ (∀ t z, t < j → x.nx[t]? = some z → ∃ y, fnd l z = some y) ∧ Below w1.heap.size w1 wq) (fun i _ => k - iv i)
      case atStart => exact ⟨0, Nat.zero_le _, rfl, fun t y ht => absurd ht (Nat.not_lt_zero _), NB0.out⟩
      case round =>
        obtain ⟨j, hj, rfl, hA, hB⟩ := hrel
        have NB := Lib.hid hB; have NA := Lib.hid hA
        clear hB hA NB0
        have q0 := (XX.out wr NB.out).2.2.2.2
        rw [HM.out] at q0
        have zb := World.block_lt_of_cell? wr _ q0
        by_cases hjk : j < k
        · obtain ⟨z, hz⟩ : ∃ z, x.nx[j]? = some z := ⟨_, List.getElem?_eq_getElem (by rw [HM.out]; omega)⟩
          obtain ⟨b1, o1, e1, h1⟩ := (NN.out wr NB.out).get hz
          rw [e1] at q0
          have zb2 := World.block_lt_of_cell? wr _ h1
          have hkd2 : decide ((j : Int) < (k : Int)) = true := by simp; omega
          have FR := Lib.hid (refFind_any p n c l z wr (LV.out wr NB.out) HL.out (by omega))
          have HZ := Lib.hid hz
          clear hz e1
          cases hf : fnd l z with
          | none =>
            rw [fixV_none hf] at FR
            have E : R = 7 := by rw [← HR.out]; exact nxt_none ND2.out HZ.out hf
            subst E
            clear hf
            go_wp2_with fail
            refine FR.out.mono ?_
            rintro e w2 ⟨rfl, rfl⟩
            go_wp2_with fail
            go_ret
            exact ⟨rfl, W1.out.trans (NB.out.mono W1.out.size)⟩
          | some y =>
            obtain ⟨t, ht, _, _⟩ := fixV_some hf
            rw [ht] at FR
            have dt : decide ((t : Int) < 0) = false := decide_eq_false (by omega)
            have NA2 : Hid (∀ t z, t < j + 1 → x.nx[t]? = some z → ∃ y, fnd l z = some y) := by
              show ∀ t z, t < j + 1 → x.nx[t]? = some z → ∃ y, fnd l z = some y
              intro t q ht hq
              rcases (show t < j ∨ t = j by omega) with g | g
              · exact NA.out t q g hq
              · subst g
                obtain rfl := Option.some.inj (HZ.out.symm.trans hq)
                exact ⟨y, hf⟩
            clear hf ht
            go_wp2_with fail
            refine FR.out.mono ?_
            rintro e w2 ⟨rfl, rfl⟩
            go_wp2_with fail
            go_roundw
            case rel => exact ⟨j + 1, by omega, by go_num, NA2.out, NB.out⟩
            case measure => simp only [iv]; omega
        · obtain rfl : j = k := by omega
          have hkd2 : decide ((j : Int) < (j : Int)) = false := by simp
          have AL : Hid (∀ z ∈ x.nx, ∃ y, fnd l z = some y) := by
            show ∀ z ∈ x.nx, ∃ y, fnd l z = some y
            intro z hz
            obtain ⟨q, hq⟩ := List.getElem?_of_mem hz
            exact NA.out q z (by rw [← HM.out]; exact (List.getElem?_eq_some_iff.1 hq).1) hq
          have NB0 := Lib.hid NB.out
          clear NA NB
          go_wp2_with fail
          clear q0 zb
          go_loopw [8] (fun i wq => ∃ t : Nat, t ≤ j ∧ i = .int .i64 t ∧ (∀ q z, q < t → x.nx[q]? = some z → ∃ y, fnd l z = some y ∧ y.fr = x.un) ∧ Below w1.heap.size w1 wq) (fun i _ => j - iv i)
          case atStart => exact ⟨0, Nat.zero_le _, rfl, fun t y ht => absurd ht (Nat.not_lt_zero _), NB0.out⟩
          case round =>
            obtain ⟨t, ht, rfl, hA, hB⟩ := hrel
            have NB := Lib.hid hB; have NA := Lib.hid hA
            clear hB hA NB0
            by_cases htj : t < j
            · obtain ⟨z, hz⟩ : ∃ z, x.nx[t]? = some z := ⟨_, List.getElem?_eq_getElem (by rw [HM.out]; omega)⟩
              obtain ⟨y, hf⟩ := AL.out z (List.mem_of_getElem? hz)
              obtain ⟨b1, o1, e1, h1⟩ := (NN.out wr NB.out).get hz
              have q4 := (XX.out wr NB.out).2.2.2.2
              have q3 := (XX.out wr NB.out).2.2.2.1
              rw [HM.out, e1] at q4
              have hkd3 : decide ((t : Int) < (j : Int)) = true := by simp; omega
              obtain ⟨g, hg, hlk, hgl⟩ := fixV_some hf
              obtain ⟨b2, o2, e2, ha, _⟩ := (LV.out wr NB.out).get hlk
              have r2 := ha.2.2.1
              have gn : g < n := by rw [← HL.out]; exact hgl
              have FR := Lib.hid (fun v (h : Below wr.heap.size wr v) => refFind_any p n c l z v ((LV.out wr NB.out).next h) HL.out (by omega))
              simp only [hg] at FR
              have HZ := Lib.hid hz; have HF := Lib.hid hf
              have HS := Lib.hid (show wr.cell? ⟨z0, 0 + 4, none⟩ = some (.slice (some ⟨b1, o1, none⟩) j x.nc) ∧ wr.cell? ⟨z0, 0 + 3, none⟩ = some (.int .i64 x.un) ∧ wr.cell? ⟨b1, o1 + t, none⟩ = some (.int .i64 z) ∧ wr.cell? ⟨b2, o2 + g * 5 + 2, none⟩ = some (.int .i64 y.fr) from ⟨q4, q3, h1, r2⟩)
              have zb := World.block_lt_of_cell? wr _ q4
              have zb1 := World.block_lt_of_cell? wr _ h1
              have zb2 := World.block_lt_of_cell? wr _ r2
              have k3 : (0 : Int) ≤ (t : Int) := by omega
              have k4 : (t : Int) < (j : Int) := by omega
              have k6 : (0 : Int) ≤ (g : Int) := by omega
              have k7 : (g : Int) < (n : Int) := by omega
              clear hz hf hg hlk hgl ha q3 h1 r2 e1
              subst e2
              go_wp2_with fail
              clear q4
              go_region_held3 (fun v => v.cell? ⟨z0, 0 + 4, none⟩ = some (.slice (some ⟨b1, o1, none⟩) j x.nc) ∧ v.cell? ⟨z0, 0 + 3, none⟩ = some (.int .i64 x.un) ∧ v.cell? ⟨b1, o1 + t, none⟩ = some (.int .i64 z) ∧ v.cell? ⟨b2, o2 + g * 5 + 2, none⟩ = some (.int .i64 y.fr)) (first | exact HS.out | assumption)
                ((first
                  | (go_at_call 32; refine (FR.out _ (below_drewN (Below.refl _ wr) 1)).mono ?_; rintro e w9 ⟨rfl, hw9⟩; have hb9 : Below wr.heap.size wr w9 := (by rw [← hw9]; exact below_drewN (Below.refl _ wr) 1); have hs9 := hold4w HS.out hb9)))
              have NB9 : Hid (Below w1.heap.size w1 w9) := NB.out.trans (hb9.mono NB.out.size)
              clear hb9 hs9 hw9
              by_cases he : y.fr = x.un
              · have d1 : (y.fr == x.un) = true := by rw [he]; simp
                have d2 : (y.fr != x.un) = false := by rw [he]; simp
                have NA2 : Hid (∀ q z, q < t + 1 → x.nx[q]? = some z → ∃ y, fnd l z = some y ∧ y.fr = x.un) := by
                  show ∀ q z, q < t + 1 → x.nx[q]? = some z → ∃ y, fnd l z = some y ∧ y.fr = x.un
                  intro q z2 hq hz2
                  rcases (show q < t ∨ q = t by omega) with g | g
                  · exact NA.out q z2 g hz2
                  · subst g
                    obtain rfl := Option.some.inj (HZ.out.symm.trans hz2)
                    exact ⟨y, HF.out, he⟩
                clear he
                go_wp2_with fail
                go_roundw
                case rel => exact ⟨t + 1, by omega, by go_num, NA2.out, NB9.out⟩
                case measure => simp only [iv]; omega
              · have d1 : (y.fr == x.un) = false := by simp [he]
                have d2 : (y.fr != x.un) = true := by simp [he]
                have E : R = 10 := by rw [← HR.out]; exact nxt_bad ND2.out AL.out HZ.out HF.out he
                clear he
                subst E
                go_wp2_with fail
                go_ret
                exact ⟨rfl, W1.out.trans (NB9.out.mono W1.out.size)⟩
            · obtain rfl : t = j := by omega
              have hkd3 : decide ((t : Int) < (t : Int)) = false := by simp
              have q0 := (XX.out wr NB.out).2.2.2.2
              rw [HM.out] at q0
              have zb := World.block_lt_of_cell? wr _ q0
              have E : R = 0 := by
                rw [← HR.out]
                refine nxt_ok ND2.out fun z hz => ?_
                obtain ⟨q, hq⟩ := List.getElem?_of_mem hz
                exact NA.out q z (by rw [← HM.out]; exact (List.getElem?_eq_some_iff.1 hq).1) hq
              subst E
              go_wp2_with fail
              go_ret
              exact ⟨rfl, W1.out.trans (NB.out.mono W1.out.size)⟩

end Go.Proofs.Ytchaihdbljkphaa
