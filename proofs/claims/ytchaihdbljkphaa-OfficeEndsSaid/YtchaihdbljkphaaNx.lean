/-
  What an office's successors are checked for. No statement of the seat is proved here.
-/
import Derived.Test.YtchaihdbljkphaaSe
namespace Go.Proofs.Ytchaihdbljkphaa
open Go Go.RowKit Go.Maps

theorem take_next {α : Type} {l : List α} {k : Nat} {z : α} (h : l[k]? = some z) : l.take (k + 1) = l.take k ++ [z] := by
  rw [List.take_add_one, h]
  rfl
theorem nodup_take {l : List Int} {k : Nat} {z : Int} (h : l[k]? = some z) (hd : (l.take k).Nodup) (hn : z ∉ l.take k) : (l.take (k + 1)).Nodup := by
  rw [take_next h, List.nodup_append]
  refine ⟨hd, by simp, fun a ha b hb e => ?_⟩
  obtain rfl := List.mem_singleton.1 hb
  exact hn (e ▸ ha)
theorem not_nodup {l : List Int} {k : Nat} {z : Int} (h : l[k]? = some z) (hn : z ∈ l.take k) : ¬ l.Nodup := by
  intro hd
  obtain ⟨j, hj⟩ := List.getElem?_of_mem hn
  rw [List.getElem?_take] at hj
  split at hj
  · rename_i hjk
    obtain ⟨a1, a2⟩ := List.getElem?_eq_some_iff.1 hj
    obtain ⟨b1, b2⟩ := List.getElem?_eq_some_iff.1 h
    have := (List.getElem_inj hd).1 (a2.trans b2.symm)
    omega
  · cases hj
theorem nxt_two {l : List Off} {x : Off} (h : ¬ x.nx.Nodup) : nxtE l x = 6 := by
  unfold nxtE
  rw [if_pos h]
theorem nxt_none {l : List Off} {x : Off} (h : x.nx.Nodup) {k : Nat} {z : Int} (hz : x.nx[k]? = some z) (hf : fnd l z = none) : nxtE l x = 7 := by
  unfold nxtE
  rw [if_neg (fun k => k h), if_pos (List.any_eq_true.2 ⟨z, List.mem_of_getElem? hz, by rw [hf]; rfl⟩)]
theorem nxt_bad {l : List Off} {x : Off} (h : x.nx.Nodup) (hA : ∀ z ∈ x.nx, ∃ y, fnd l z = some y) {k : Nat} {z : Int} {y : Off} (hz : x.nx[k]? = some z) (hf : fnd l z = some y) (hy : y.fr ≠ x.un) : nxtE l x = 10 := by
  unfold nxtE
  rw [if_neg (fun k => k h), if_neg, if_pos (List.any_eq_true.2 ⟨z, List.mem_of_getElem? hz, by rw [hf]; exact decide_eq_true hy⟩)]
  rw [Bool.not_eq_true, List.any_eq_false]
  intro z hz
  obtain ⟨y, hy⟩ := hA z hz
  rw [hy]
  simp
theorem nxt_ok {l : List Off} {x : Off} (h : x.nx.Nodup) (hA : ∀ z ∈ x.nx, ∃ y, fnd l z = some y ∧ y.fr = x.un) : nxtE l x = 0 := by
  unfold nxtE
  rw [if_neg (fun k => k h), if_neg, if_neg]
  · rw [Bool.not_eq_true, List.any_eq_false]
    intro z hz
    obtain ⟨y, hy, he⟩ := hA z hz
    rw [hy]
    simp [he]
  · rw [Bool.not_eq_true, List.any_eq_false]
    intro z hz
    obtain ⟨y, hy, _⟩ := hA z hz
    rw [hy]
    simp

/-- An office's span, as a field. -/
theorem fld_in (a : Int) (s : ByteArray) (f u : Int) (p : Option Addr) (n c : Nat) (w : World) : (Instr.field 43 (.agg #[.int .i64 a, .string s, .int .i64 f, .int .i64 u, .slice p n c]) 2).run Try.prog w = .ok (.agg #[.int .i64 f, .int .i64 u]) w := by kernel_rfl

theorem fld_fr (f u : Int) (w : World) : (Instr.field 41 (.agg #[.int .i64 f, .int .i64 u]) 0).run Try.prog w = .ok (.int .i64 f) w := by kernel_rfl

set_option maxRecDepth 100000 in
set_option maxHeartbeats 8000000 in
theorem Next_any (b : Nat) (l : List Off) (x : Off) (w : World) (hM : MapQ w b l l) (hN : IntsAt w x.np x.nx) (hF : FitO x) (hS : x.nx.length ≤ 8) :
    Calls Try.prog 48 #[.agg #[.int .i64 x.id, .string x.nm, .int .i64 x.fr, .int .i64 x.un, .slice x.np x.nx.length x.nc], .map (some b)] w fun e w' => e = .returned (.int .i64 (nxtE l x)) ∧ Below w.heap.size w w' := by
  obtain ⟨R, hR⟩ : ∃ R, nxtE l x = R := ⟨_, rfl⟩
  have HR := Lib.hid hR
  have FF := Lib.hid hF
  have ON := off_new w x 43
  obtain ⟨n, hn⟩ : ∃ n, x.nx.length = n := ⟨_, rfl⟩
  have HN := Lib.hid hn
  rw [hR, hn]
  rw [hn] at ON hS
  obtain ⟨w1, hw1⟩ : ∃ w1, w1 = w.alloc (.cells #[.int .i64 x.id, .string x.nm, .int .i64 x.fr, .int .i64 x.un, .slice x.np n x.nc] 43) := ⟨_, rfl⟩
  have W1 : Hid (Below w.heap.size w w1) := by
    show Below _ _ _
    rw [hw1]
    exact (Below.refl _ _).alloc (Nat.le_refl _) _
  have MM := Lib.hid (fun (v : World) (h : Below w1.heap.size w1 v) => (hM.next W1.out).next h)
  have NN := Lib.hid (fun (v : World) (h : Below w1.heap.size w1 v) => (hN.next W1.out).next h)
  rw [← hw1] at ON
  have XX := Lib.hid (fun (v : World) (h : Below w1.heap.size w1 v) => ON.next h)
  have ZB := Lib.hid ON.lt
  have Q0 := Lib.hid (XX.out _ ((Below.refl _ _).alloc (Nat.le_refl _) (.map #[] 0))).2.2.2.2
  have q0 := Q0.out
  rw [hn] at q0
  rw [hw1] at q0
  have hmm := @run_makeMap Try.prog
  have S0 := Lib.hid (SetM.new w1)
  clear ON hM hN hF hR hn Q0
  go_enter Try.func48, Try.ntmps48
  go_wp2_with fail
  clear hmm q0
  rw [← hw1]
  have e1 : w1.heap.size = w.heap.size + 1 := by rw [hw1]; simp
  rw [e1] at S0
  have E1 := Lib.hid e1
  obtain ⟨b2, hb2⟩ : ∃ b2, b2 = w.heap.size + 1 := ⟨_, rfl⟩
  rw [← hb2] at S0 ⊢
  have HB2 := Lib.hid hb2
  clear hb2 hw1
  obtain ⟨z0, hz0⟩ : ∃ z0, z0 = w.heap.size := ⟨_, rfl⟩
  rw [← hz0] at ZB XX ⊢
  have B0 : Hid (Below w1.heap.size w1 (w1.alloc (.map #[] 0))) := (Below.refl _ _).alloc (Nat.le_refl _) _
  have B2S : Hid (w1.heap.size ≤ b2) := by show _ ≤ _; rw [HB2.out, E1.out]; exact Nat.le_refl _
  clear hz0 e1
  go_loopw [18] (fun i wr => ∃ k : Nat, k ≤ n ∧ i = .int .i64 k ∧ SetM wr b2 (x.nx.take k) ∧ (x.nx.take k).Nodup ∧ Below w1.heap.size w1 wr) (fun i _ => n - iv i)
  case atStart => exact ⟨0, Nat.zero_le _, rfl, by rw [List.take_zero]; exact S0.out, by simp, B0.out⟩
  case round =>
    obtain ⟨k, hk, rfl, hM, hD, hB⟩ := hrel
    have NM := Lib.hid hM; have NB := Lib.hid hB; have ND := Lib.hid hD
    clear hM hB hD S0 B0
    by_cases hkn : k < n
    · obtain ⟨z, hz⟩ : ∃ z, x.nx[k]? = some z := ⟨_, List.getElem?_eq_getElem (by rw [HN.out]; exact hkn)⟩
      obtain ⟨blk, off, hnp, ha⟩ := (NN.out wr NB.out).get hz
      have zb := World.block_lt_of_cell? wr _ ha
      have hkd : decide ((k : Int) < (n : Int)) = true := by simp; omega
      have iz := FF.out.2.2.2.1 z (List.mem_of_getElem? hz)
      have IZ := Lib.hid iz
      have HZ := Lib.hid hz
      clear hz iz
      rw [hnp]
      cases hd : decide (z ∈ x.nx.take k) with
      | true =>
        have lk := NM.out.look IZ.out hd
        have E : R = 6 := by rw [← HR.out]; exact nxt_two (not_nodup HZ.out (of_decide_eq_true hd))
        clear hd
        subst E
        go_wp2_with fail
        go_ret
        exact ⟨rfl, W1.out.trans (NB.out.mono W1.out.size)⟩
      | false =>
        have lk := NM.out.look IZ.out hd
        have ND2 := Lib.hid (nodup_take HZ.out ND.out (of_decide_eq_false hd))
        obtain ⟨D, m, hown, hm, h3, h4⟩ := NM.out
        have PUT := Lib.hid (fun (w' : World) h => SetM.put (w' := w') (b := b2) (x := z) (hown.tidy (int_keyed Try.underlying3)) hm h3 h4 h)
        have mm : m ≤ 1000 := by have := List.length_take_le k x.nx; omega
        have KEY := key_int IZ.out
        clear hd hm h3 h4
        go_wp2_with (at_mapUpdate; refine wpList_mapUpdate_own _ rfl _ _ _ 55 rfl 3 4 (int_keyed Try.underlying3) Try.underlying55 _ b2 m D rfl hown (by unfold maxLen; omega) (.int .i64 z) (.bool true) (.int .i64 z) rfl rfl KEY (.lit (.bool true)) [] (plainElem_bool Try.underlying4 true) ?_; intro w7 hown7 hgrow7)
        have S7 := Lib.hid (PUT.out w7 hown7)
        have B7 := Lib.hid (NB.out.grown hgrow7 NB.out.size (by intro q e; cases e; exact B2S.out))
        clear hown hown7 hgrow7 PUT lk
        go_wp2_with fail
        go_roundw
        case rel => exact ⟨k + 1, by omega, by go_num, by rw [take_next HZ.out]; exact S7.out, ND2.out, B7.out⟩
        case measure => simp only [iv]; omega
    · obtain rfl : k = n := by omega
      have hkd : decide ((k : Int) < (k : Int)) = false := by simp
      have ND2 : Hid (x.nx.Nodup) := by
        show List.Nodup _
        have := ND.out
        rw [← HN.out, List.take_length] at this
        exact this
      have q0 := (XX.out wr NB.out).2.2.2.2
      rw [HN.out] at q0
      have zb := World.block_lt_of_cell? wr _ q0
      have NB0 := Lib.hid NB.out
      clear NM ND NB
      go_wp2_with fail
      clear q0 zb
      go_loopw [31] (fun i wr => ∃ j : Nat, j ≤ k ∧ i = .int .i64 j ∧ (∀ q z, q < j → x.nx[q]? = some z → ∃ y, fnd l z = some y) ∧ Below w1.heap.size w1 wr) (fun i _ => k - iv i)
      case atStart => exact ⟨0, Nat.zero_le _, rfl, fun q z hq => absurd hq (Nat.not_lt_zero _), NB0.out⟩
      case round =>
        obtain ⟨j, hj, rfl, hA, hB⟩ := hrel
        have NA := Lib.hid hA; have NB := Lib.hid hB
        clear hA hB NB0
        by_cases hjn : j < k
        · obtain ⟨z, hz⟩ : ∃ z, x.nx[j]? = some z := ⟨_, List.getElem?_eq_getElem (by rw [HN.out]; exact hjn)⟩
          obtain ⟨blk, off, hnp, ha⟩ := (NN.out wr NB.out).get hz
          have zb := World.block_lt_of_cell? wr _ ha
          have hkd2 : decide ((j : Int) < (k : Int)) = true := by simp; omega
          have iz := FF.out.2.2.2.1 z (List.mem_of_getElem? hz)
          have IZ := Lib.hid iz
          have HZ := Lib.hid hz
          clear hz iz
          rw [hnp]
          cases hf : fnd l z with
          | none =>
            have lk := (MM.out wr NB.out).miss IZ.out hf
            have E : R = 7 := by rw [← HR.out]; exact nxt_none ND2.out HZ.out hf
            clear hf
            subst E
            go_wp2_with fail
            go_ret
            exact ⟨rfl, W1.out.trans ((NB.out.alloc NB.out.size _).mono W1.out.size)⟩
          | some y =>
            have lk := (MM.out wr NB.out).look (fun _ h => h) IZ.out hf
            have NA2 : Hid (∀ q z, q < j + 1 → x.nx[q]? = some z → ∃ y, fnd l z = some y) := by
              show ∀ q z, q < j + 1 → x.nx[q]? = some z → ∃ y, fnd l z = some y
              intro q z2 hq hz2
              rcases (show q < j ∨ q = j by omega) with g | g
              · exact NA.out q z2 g hz2
              · subst g
                obtain rfl := Option.some.inj (HZ.out.symm.trans hz2)
                exact ⟨y, hf⟩
            clear hf
            go_wp2_with fail
            go_roundw
            case rel => exact ⟨j + 1, by omega, by go_num, NA2.out, NB.out.alloc NB.out.size _⟩
            case measure => simp only [iv]; omega
        · obtain rfl : j = k := by omega
          have hkd2 : decide ((j : Int) < (j : Int)) = false := by simp
          have AL : Hid (∀ z ∈ x.nx, ∃ y, fnd l z = some y) := by
            show ∀ z ∈ x.nx, ∃ y, fnd l z = some y
            intro z hz
            obtain ⟨q, hq⟩ := List.getElem?_of_mem hz
            exact NA.out q z (by rw [← HN.out]; exact (List.getElem?_eq_some_iff.1 hq).1) hq
          have q0 := (XX.out wr NB.out).2.2.2.2
          rw [HN.out] at q0
          have zb := World.block_lt_of_cell? wr _ q0
          have NB0 := Lib.hid NB.out
          clear NA NB
          go_wp2_with fail
          clear q0 zb
          go_loopw [47] (fun i wr => ∃ t : Nat, t ≤ j ∧ i = .int .i64 t ∧ (∀ q z, q < t → x.nx[q]? = some z → ∃ y, fnd l z = some y ∧ y.fr = x.un) ∧ Below w1.heap.size w1 wr) (fun i _ => j - iv i)
          case atStart => exact ⟨0, Nat.zero_le _, rfl, fun q z hq => absurd hq (Nat.not_lt_zero _), NB0.out⟩
          case round =>
            obtain ⟨t, ht, rfl, hA, hB⟩ := hrel
            have NA := Lib.hid hA; have NB := Lib.hid hB
            clear hA hB NB0
            by_cases hjn : t < j
            · obtain ⟨z, hz⟩ : ∃ z, x.nx[t]? = some z := ⟨_, List.getElem?_eq_getElem (by rw [HN.out]; exact hjn)⟩
              obtain ⟨blk, off, hnp, ha⟩ := (NN.out wr NB.out).get hz
              have zb := World.block_lt_of_cell? wr _ ha
              have hkd3 : decide ((t : Int) < (j : Int)) = true := by simp; omega
              have iz := FF.out.2.2.2.1 z (List.mem_of_getElem? hz)
              have IZ := Lib.hid iz
              have HZ := Lib.hid hz
              obtain ⟨y, hf⟩ := AL.out z (List.mem_of_getElem? hz)
              clear hz iz
              rw [hnp]
              have lk := (MM.out wr NB.out).look1 (fun _ h => h) IZ.out hf
              have q0 := (XX.out wr NB.out).2.2.2.1
              have zb2 := World.block_lt_of_cell? wr _ q0
              have fi := fun v => fld_in y.id y.nm y.fr y.un y.np y.nx.length y.nc v
              have fj := fun v => fld_fr y.fr y.un v
              by_cases he : y.fr = x.un
              · have d1 : (y.fr == x.un) = true := by rw [he]; simp
                have d2 : (y.fr != x.un) = false := by rw [he]; simp
                have NA2 : Hid (∀ q z, q < t + 1 → x.nx[q]? = some z → ∃ y, fnd l z = some y ∧ y.fr = x.un) := by
                  show ∀ q z, q < t + 1 → x.nx[q]? = some z → ∃ y, fnd l z = some y ∧ y.fr = x.un
                  intro q z2 hq hz2
                  rcases (show q < t ∨ q = t by omega) with g | g
                  · exact NA.out q z2 g hz2
                  · subst g
                    obtain rfl := Option.some.inj (HZ.out.symm.trans hz2)
                    exact ⟨y, hf, he⟩
                clear hf he
                go_wp2_with fail
                go_roundw
                case rel => exact ⟨t + 1, by omega, by go_num, NA2.out, NB.out⟩
                case measure => simp only [iv]; omega
              · have d1 : (y.fr == x.un) = false := by simp [he]
                have d2 : (y.fr != x.un) = true := by simp [he]
                have E : R = 10 := by rw [← HR.out]; exact nxt_bad ND2.out AL.out HZ.out hf he
                clear hf he
                subst E
                go_wp2_with fail
                go_ret
                exact ⟨rfl, W1.out.trans (NB.out.mono W1.out.size)⟩
            · obtain rfl : t = j := by omega
              have hkd3 : decide ((t : Int) < (t : Int)) = false := by simp
              have E : R = 0 := by
                rw [← HR.out]
                refine nxt_ok ND2.out fun z hz => ?_
                obtain ⟨q, hq⟩ := List.getElem?_of_mem hz
                exact NA.out q z (by rw [← HN.out]; exact (List.getElem?_eq_some_iff.1 hq).1) hq
              subst E
              go_wp2_with fail
              go_ret
              exact ⟨rfl, W1.out.trans (NB.out.mono W1.out.size)⟩

end Go.Proofs.Ytchaihdbljkphaa
