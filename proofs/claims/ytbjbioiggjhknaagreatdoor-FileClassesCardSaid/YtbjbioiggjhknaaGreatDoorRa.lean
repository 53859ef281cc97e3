/-
  The reference's less, Within and Good. No statement of the seat is proved here.
-/
import Derived.Test.YtbjbioiggjhknaaGreatDoorRq
namespace Go.Proofs.YtbjbioiggjhknaaGreatDoor
open Go Go.RowKit Go.Shelf

theorem cmpL_drop {a b : List Int} {k : Nat} (h1 : k < a.length) (h2 : k < b.length) : cmpL (a.drop k) (b.drop k) = if a.getD k 0 < b.getD k 0 then -1 else if b.getD k 0 < a.getD k 0 then 1 else cmpL (a.drop (k + 1)) (b.drop (k + 1)) := by
  rw [List.drop_eq_getElem_cons h1, List.drop_eq_getElem_cons h2, cmpL]
  simp [List.getD, h1, h2]
theorem cmpL_end {a b : List Int} {k : Nat} (h1 : k ≤ a.length) (h2 : k ≤ b.length) (h : k = a.length ∨ k = b.length) : cmpL (a.drop k) (b.drop k) = if a.length < b.length then -1 else if b.length < a.length then 1 else 0 := by
  rcases h with rfl | rfl
  · rw [List.drop_length]
    by_cases h : a.length < b.length
    · rw [if_pos h, List.drop_eq_getElem_cons h]; rfl
    · rw [if_neg h, if_neg (by omega), List.drop_of_length_le (by omega)]; rfl
  · rw [List.drop_length]
    by_cases h : b.length < a.length
    · rw [if_neg (by omega), if_pos h, List.drop_eq_getElem_cons h]; rfl
    · rw [if_neg (by omega), if_neg h, List.drop_of_length_le (by omega)]; rfl

set_option maxRecDepth 100000 in
set_option maxHeartbeats 4000000 in
theorem less_any (p q : Option Addr) (n m c d : Nat) (ns ms : List Int) (R : Int) (w : World) (h1 : IntsAt w p ns) (h2 : IntsAt w q ms) (hn : ns.length = n) (hm : ms.length = m) (n6 : n ≤ 1000) (m6 : m ≤ 1000) (hR : R = cmpL ns ms) :
    Calls Tryz.prog 94 #[.slice p n c, .slice q m d] w fun e w' => e = .returned (.int .i64 R) ∧ Below w.heap.size w w' := by
  have H1 := Lib.hid h1; have H2 := Lib.hid h2; have HN := Lib.hid hn; have HM := Lib.hid hm
  have R0 : Hid (cmpL (ns.drop 0) (ms.drop 0) = R) := by rw [hR]; exact rfl
  clear h1 h2 hn hm hR
  go_enter Tryz.func94, Tryz.ntmps94
  go_wp2_with fail
  go_loopw [5] (fun i wr => ∃ k : Nat, k ≤ n ∧ k ≤ m ∧ i = .int .i64 k ∧ cmpL (ns.drop k) (ms.drop k) = R ∧ Below w.heap.size w wr) (fun i _ => n - (intOf i).toNat)
  case atStart => exact ⟨0, Nat.zero_le _, Nat.zero_le _, rfl, R0.out, Below.refl _ _⟩
  case round =>
    obtain ⟨k, hk1, hk2, rfl, hc, hb⟩ := hrel
    have B := Lib.hid hb; have C := Lib.hid hc
    clear hb hc R0
    by_cases hlt : k < n
    · have t1 : decide ((k : Int) < (n : Int)) = true := by rw [decide_eq_true_iff]; omega
      by_cases hlt2 : k < m
      · have t2 : decide ((k : Int) < (m : Int)) = true := by rw [decide_eq_true_iff]; omega
        obtain ⟨b1, o1, rfl, c1⟩ := (H1.out.below B.out).cell (k := k) (by rw [HN.out]; exact hlt)
        obtain ⟨b2, o2, rfl, c2⟩ := (H2.out.below B.out).cell (k := k) (by rw [HM.out]; exact hlt2)
        have st := cmpL_drop (a := ns) (b := ms) (k := k) (by rw [HN.out]; exact hlt) (by rw [HM.out]; exact hlt2)
        rw [C.out] at st
        have i1 : (0 : Int) ≤ (k : Int) := by omega
        have i2 : (k : Int) < (n : Int) := by omega
        have i3 : (k : Int) < (m : Int) := by omega
        obtain ⟨x, hx⟩ : ∃ x, x = ns.getD k 0 := ⟨_, rfl⟩
        obtain ⟨y, hy⟩ : ∃ y, y = ms.getD k 0 := ⟨_, rfl⟩
        rw [← hx, ← hy] at st
        rw [← hx] at c1
        rw [← hy] at c2
        clear hx hy
        by_cases l1 : x < y
        · have dx : decide (x < y) = true := decide_eq_true l1
          rw [if_pos l1] at st
          subst st
          go_wp2_with fail
          go_quiet (fail)
          go_wp2_with fail
          go_ret
          exact ⟨rfl, below_drewN B.out _⟩
        · have dx : decide (x < y) = false := decide_eq_false l1
          rw [if_neg l1] at st
          by_cases l2 : y < x
          · have dy : decide (x > y) = true := decide_eq_true l2
            rw [if_pos l2] at st
            subst st
            clear l1 l2
            go_wp2_with fail
            go_quiet (fail)
            go_wp2_with fail
            go_quiet (fail)
            go_wp2_with fail
            go_ret
            exact ⟨rfl, below_drewN (below_drewN B.out _) _⟩
          · have dy : decide (x > y) = false := decide_eq_false l2
            rw [if_neg l2] at st
            have ST := Lib.hid st.symm
            clear st l1 l2
            go_wp2_with fail
            go_quiet (fail)
            go_wp2_with fail
            go_quiet (fail)
            go_wp2_with fail
            go_roundw
            case rel => exact ⟨k + 1, by omega, by omega, by go_num, ST.out, below_drewN B.out _⟩
            case measure => simp [intOf]; omega
      · have t2 : decide ((k : Int) < (m : Int)) = false := by rw [decide_eq_false_iff_not]; omega
        obtain rfl : k = m := by omega
        have e := cmpL_end (a := ns) (b := ms) (k := k) (by rw [HN.out]; omega) (by rw [HM.out]; omega) (.inr HM.out.symm)
        rw [C.out, HN.out, HM.out, if_neg (by omega), if_pos hlt] at e
        subst e
        have d1 : decide ((n : Int) < (k : Int)) = false := by rw [decide_eq_false_iff_not]; omega
        have d2 : decide ((n : Int) > (k : Int)) = true := by rw [decide_eq_true_iff]; omega
        go_wp2_with fail
        go_ret
        exact ⟨rfl, B.out⟩
    · have t1 : decide ((k : Int) < (n : Int)) = false := by rw [decide_eq_false_iff_not]; omega
      obtain rfl : k = n := by omega
      have e := cmpL_end (a := ns) (b := ms) (k := k) (by rw [HN.out]; omega) (by rw [HM.out]; omega) (.inl HN.out.symm)
      rw [C.out, HN.out, HM.out] at e
      by_cases hkm : k < m
      · rw [if_pos hkm] at e
        subst e
        have d1 : decide ((k : Int) < (m : Int)) = true := by rw [decide_eq_true_iff]; omega
        go_wp2_with fail
        go_ret
        exact ⟨rfl, B.out⟩
      · rw [if_neg hkm, if_neg (by omega)] at e
        subst e
        have d1 : decide ((k : Int) < (m : Int)) = false := by rw [decide_eq_false_iff_not]; omega
        have d2 : decide ((k : Int) > (m : Int)) = false := by rw [decide_eq_false_iff_not]; omega
        go_wp2_with fail
        go_ret
        exact ⟨rfl, B.out⟩

/-- What Parse and its reference answer, in one form. -/
def PAns (f : FuncId) (s : ByteArray) (ns : List Int) (k : Nat) (E : Int) : Prop := ∀ w, Env w → Calls Tryz.prog f #[.string s] w fun e w' => ∃ p c, e = .returned (.tuple #[.slice p k c, .int .i64 E]) ∧ k ≤ c ∧ IntsAt w' p ns ∧ Below w.heap.size w w'
theorem refParse_ans (s : ByteArray) (hsz : s.size ≤ 1000000000000) : (∃ xs, Is (bs s) xs ∧ PAns 93 s xs xs.length 0) ∨ ((∀ xs, ¬ Is (bs s) xs) ∧ PAns 93 s [] 0 3) := by
  by_cases hx : ∀ xs, ¬ Is (bs s) xs
  · exact .inr ⟨hx, fun w _ => (refParse_no s w hsz hx).mono fun e w' ⟨h1, h2⟩ => ⟨_, _, h1, Nat.zero_le _, .inl rfl, h2⟩⟩
  · obtain ⟨xs, hx⟩ := Classical.not_forall_not.1 hx
    refine .inl ⟨xs, hx, fun w _ => (refParse_ok s xs w hx).mono fun e w' ⟨q, c, h1, h2, h3⟩ => ⟨q, c, h1, ?_, intsAt_of_row h2, h3⟩⟩
    rcases h2.2 with ⟨_, h⟩ | ⟨g, cap, cur, e, _, _, h, _⟩
    · omega
    · have : c = cap := by simpa using (Value.slice.inj e).2.2
      omega

theorem prefix_cmp (xs ys : List Int) : (cmpL (xs.take ys.length) ys == 0) = ys.isPrefixOf xs := by
  rw [Bool.eq_iff_iff, beq_iff_eq, cmpL_zero, List.isPrefixOf_iff_prefix, List.prefix_iff_eq_take]
  exact ⟨fun h => h.symm, fun h => h.symm⟩
theorem prefix_short (xs ys : List Int) (h : xs.length < ys.length) : ys.isPrefixOf xs = false := by
  rw [Bool.eq_false_iff]
  intro e
  have := (List.isPrefixOf_iff_prefix.1 e).length_le
  omega
theorem IntsAt.take {w : World} {p : Option Addr} {ns : List Int} (h : IntsAt w p ns) (k : Nat) : IntsAt w p (ns.take k) := by
  rcases h with rfl | ⟨b, o, rfl, h⟩
  · exact .inl (by simp)
  · refine .inr ⟨b, o, rfl, fun j hj => ?_⟩
    rw [List.length_take] at hj
    rw [h j (by omega)]
    simp [List.getD, (show j < k by omega)]

theorem Good_any (s : ByteArray) (w : World) (hE : Env w) (g : Bool) (E : Int) (xs : List Int) (n : Nat) (hg : (E == 0) = g) (h1 : PAns 93 s xs n E) :
    Calls Tryz.prog 77 #[.string s] w fun e w' => e = .returned (.bool g) ∧ Below w.heap.size w w' := by
  have P1 := Lib.hid h1; have E0 := Lib.hid hE
  clear h1 hE
  go_enter Tryz.func77, Tryz.ntmps77
  go_wp2_with fail
  refine (P1.out _ E0.out).mono ?_
  rintro e w1 ⟨p, c, rfl, _, _, hb⟩
  have B1 := Lib.hid hb
  clear hb
  go_wp2_with fail
  go_ret
  exact ⟨rfl, B1.out⟩

end Go.Proofs.YtbjbioiggjhknaaGreatDoor
