/-
  The reference's Free. No statement of the seat is proved here.
-/
import Derived.Test.YtbpoggdinefkeaaGreatDoorRa
namespace Go.Proofs.YtbpoggdinefkeaaGreatDoor
open Go Go.RowKit Go.Shelf

theorem bs_mk (l : List UInt8) : bs ⟨l.toArray⟩ = l := by simp [bs]

theorem refFree_long (p : Option Addr) (n cap : Nat) (above : ByteArray) (w : World) (h : 1024 < n) (hb : n ≤ 1000000000000) : Calls Tryz.prog 11 #[.slice p n cap, .string above] w fun e w' => e = .returned (.tuple #[.string ⟨#[]⟩, .int .i64 8]) ∧ w = w' := by
  have d : decide ((n : Int) > 1024) = true := by rw [decide_eq_true_iff]; omega
  go_enter Tryz.func11, Tryz.ntmps11
  go_wp2_with fail
  go_ret2
  exact ⟨rfl, rfl⟩

/-- How the reference's Free ends behind its list: m + 1 is the first number that is free, or m is 999. -/
def EndR (tk : List (List UInt8)) (above : ByteArray) (X : ByteArray) (E : Int) : Prop :=
  (bs above ≠ [] ∧ PAns 27 above [] 0 3 ∧ X = ⟨#[]⟩ ∧ E = 3) ∨
  ∃ ns k F, ((bs above = [] ∧ ns = [] ∧ F = 3) ∨ (Is (bs above) ns ∧ F = 0)) ∧ PAns 27 above ns k F ∧ ns.length = k ∧ k ≤ 6 ∧
    ((k = 6 ∧ X = ⟨#[]⟩ ∧ E = 12) ∨
     (k < 6 ∧ ∃ m : Nat, m ≤ 999 ∧ (∀ n : Nat, 1 ≤ n → n < m + 1 → textOf (ns ++ [(n : Int)]) ∈ tk) ∧
       ((m = 999 ∧ X = ⟨#[]⟩ ∧ E = 12) ∨ (m < 999 ∧ textOf (ns ++ [((m + 1 : Nat) : Int)]) ∉ tk ∧ X = ⟨(textOf (ns ++ [((m + 1 : Nat) : Int)])).toArray⟩ ∧ E = 0))))

set_option maxRecDepth 100000 in
set_option maxHeartbeats 2000000 in
theorem refFree_loop (p : Option Addr) (n cap m0 : Nat) (taken : List ByteArray) (above : ByteArray) (X : ByteArray) (E : Int) (w : World) (hE : Env w) (hl : taken.length = n) (hn : n ≤ 1024) (hA : StrsAt w p taken)
    (hm : m0 ≤ n) (hg : ∀ j, j < m0 → ∃ xs k, PAns 27 (taken.getD j emp) xs k 0)
    (hR : (m0 < n ∧ (∃ xs k, PAns 27 (taken.getD m0 emp) xs k 3) ∧ X = ⟨#[]⟩ ∧ E = 3) ∨ (m0 = n ∧ EndR (taken.map bs) above X E)) :
    Calls Tryz.prog 11 #[.slice p n cap, .string above] w fun e w' => e = .returned (.tuple #[.string X, .int .i64 E]) ∧ Below w.heap.size w w' := by
  have d : decide ((n : Int) > 1024) = false := by rw [decide_eq_false_iff_not]; omega
  have E0 := Lib.hid hE; have HL := Lib.hid hl; have A0 := Lib.hid hA; have HG := Lib.hid hg; have HR := Lib.hid hR
  clear hE hl hA hg hR
  go_enter Tryz.func11, Tryz.ntmps11
  go_wp2_with fail
  go_loopw [6] (fun i wr => ∃ j : Nat, j ≤ m0 ∧ i = .int .i64 j ∧ Below w.heap.size w wr) (fun i _ => n - (intOf i).toNat)
  case atStart => exact ⟨0, Nat.zero_le _, rfl, Below.refl _ _⟩
  case round =>
    obtain ⟨j, hj, rfl, hb⟩ := hrel
    have BB := Lib.hid hb
    clear hb
    by_cases hlt : j < n
    · obtain ⟨b, o, rfl, c1⟩ := ((A0.out.below BB.out).cell (k := j) (by rw [HL.out]; exact hlt))
      obtain ⟨x, hx⟩ : ∃ x, x = taken.getD j emp := ⟨_, rfl⟩
      rw [← hx] at c1
      by_cases hjm : j < m0
      · obtain ⟨xs, k, hp⟩ := HG.out j hjm
        rw [← hx] at hp
        have GD := Lib.hid (Good_any x wr (E0.out.below BB.out) true 0 xs k rfl hp)
        clear hp hx
        go_wp2_with fail
        refine GD.out.mono ?_
        rintro e w2 ⟨rfl, hb⟩
        have B2 := Lib.hid (BB.out.trans (hb.mono BB.out.size))
        clear hb
        go_wp2_with fail
        go_roundw
        case rel => exact ⟨j + 1, by omega, by go_num, B2.out⟩
        case measure => simp [intOf]; omega
      · obtain rfl : j = m0 := by omega
        have Q : Hid ((∃ xs k, PAns 27 x xs k 3) ∧ X = ⟨#[]⟩ ∧ E = 3) := by
          rcases HR.out with ⟨_, h⟩ | ⟨h, _⟩
          · rw [← hx] at h; exact h
          · omega
        obtain ⟨⟨xs, k, hp⟩, rfl, rfl⟩ := Q.out
        have GD := Lib.hid (Good_any x wr (E0.out.below BB.out) false 3 xs k rfl hp)
        clear hp hx Q
        go_wp2_with fail
        refine GD.out.mono ?_
        rintro e w2 ⟨rfl, hb⟩
        have B2 := Lib.hid (BB.out.trans (hb.mono BB.out.size))
        clear hb
        go_wp2_with fail
        go_ret2
        exact ⟨rfl, B2.out⟩
    · obtain rfl : j = n := by omega
      obtain rfl : m0 = j := by omega
      have EN : Hid (EndR (taken.map bs) above X E) := by
        rcases HR.out with ⟨h1, _⟩ | ⟨_, h2⟩
        · omega
        · exact h2
      rcases EN.out with ⟨f1, f2, rfl, rfl⟩ | ⟨ns, k, F, fe, f2, fk, fk6, fend⟩
      · have PP := Lib.hid f2
        have ne : (above.toList == []) = false := by rw [tl, beq_eq_false_iff_ne]; exact f1
        have ne2 : above.toList.isEmpty = false := by rw [tl]; cases h : bs above with | nil => exact absurd h f1 | cons a b => rfl
        clear f1 f2 EN
        go_wp2_with fail
        refine (PP.out _ (E0.out.below BB.out)).mono ?_
        rintro e w2 ⟨q, c, rfl, _, _, hb⟩
        have B2 := Lib.hid (BB.out.trans (hb.mono BB.out.size))
        clear hb
        go_wp2_with fail
        go_ret2
        exact ⟨rfl, B2.out⟩
      · have PP := Lib.hid f2
        have FK := Lib.hid fk
        have FE := Lib.hid fend
        clear f2 fk fend EN
        rcases fe with ⟨f1, fns, rfl⟩ | ⟨f1, rfl⟩
        · have ne : (above.toList == []) = true := by rw [tl, beq_iff_eq]; exact f1
          have ne2 : above.toList.isEmpty = true := by rw [tl, f1]; rfl
          have ne3 : above.toList = [] := by rw [tl]; exact f1
          have k0 : k = 0 := by have := FK.out; rw [fns] at this; exact this.symm
          have dk : decide ((k : Int) ≥ 6) = false := by rw [decide_eq_false_iff_not]; omega
          have FR : Hid (∀ n : Nat, [] ++ Lib.decDigits n = textOf (ns ++ [(n : Int)])) := by
            intro n
            rw [fns, List.nil_append, List.nil_append, textOf_one]
            unfold Lib.itoa
            rw [if_neg (by omega), Int.toNat_natCast]
          obtain ⟨hk6, m, hm9, hin, hend⟩ : k < 6 ∧ ∃ m : Nat, m ≤ 999 ∧ (∀ n : Nat, 1 ≤ n → n < m + 1 → textOf (ns ++ [(n : Int)]) ∈ taken.map bs) ∧ ((m = 999 ∧ X = ⟨#[]⟩ ∧ E = 12) ∨ (m < 999 ∧ textOf (ns ++ [((m + 1 : Nat) : Int)]) ∉ taken.map bs ∧ X = ⟨(textOf (ns ++ [((m + 1 : Nat) : Int)])).toArray⟩ ∧ E = 0)) := by
            rcases FE.out with ⟨h, _⟩ | h
            · omega
            · exact h
          have HIN := Lib.hid hin; have HM := Lib.hid hend
          clear f1 fns k0 hin hend FE
          go_wp2_with fail
          refine (PP.out _ (E0.out.below BB.out)).mono ?_
          rintro e w2 ⟨q, c, rfl, _, _, hb⟩
          have B2 := Lib.hid (BB.out.trans (hb.mono BB.out.size))
          clear hb
          go_wp2_with fail
          obtain ⟨Fr, hFr⟩ : ∃ Fr : List UInt8, Fr = [] := ⟨_, rfl⟩
          have fl : Fr.length ≤ 30 := by rw [hFr]; simp
          rw [show (Value.string ⟨#[]⟩ : Value) = .string ⟨([] : List UInt8).toArray⟩ from rfl, ← hFr]
          rw [← hFr] at FR
          clear hFr
          go_loopw [10] (fun i wr => ∃ n : Nat, 1 ≤ n ∧ n ≤ m + 1 ∧ n ≤ 1000 ∧ i = .int .i64 n ∧ Below w.heap.size w wr) (fun i _ => 1000 - (intOf i).toNat)
          case atStart => exact ⟨1, by omega, by omega, by omega, rfl, B2.out⟩
          case round =>
            obtain ⟨n2, hn1, hnm, hn3, rfl, hb⟩ := hrel
            have BL := Lib.hid hb
            clear hb
            by_cases hlt : n2 < 1000
            · have dn : decide ((n2 : Int) ≤ 999) = true := by rw [decide_eq_true_iff]; omega
              have DC := Lib.hid (fun w => Decimal_any 3 n2 w (by omega) (by omega))
              have dl := digits_len n2
              obtain ⟨D, hD⟩ : ∃ D, D = Lib.decDigits n2 := ⟨_, rfl⟩
              rw [← hD] at DC dl
              have ADD := add_texts Fr D (by omega) (by omega)
              have ht : Fr ++ D = textOf (ns ++ [(n2 : Int)]) := by rw [hD]; exact FR.out n2
              obtain ⟨T, hT⟩ : ∃ T, T = Fr ++ D := ⟨_, rfl⟩
              rw [← hT] at ADD ht
              have HT := Lib.hid ht
              clear hD hT ht
              by_cases hmem : T ∈ taken.map bs
              · have HH : Hid (∀ w, StrsAt w p taken → Calls Tryz.prog 31 #[.slice p m0 cap, .string ⟨T.toArray⟩] w fun e w' => e = .returned (.bool true) ∧ w' = w) := by
                  intro W hW
                  have := has_any p m0 cap taken ⟨T.toArray⟩ W HL.out (by omega) hW
                  rw [bs_mk, decide_eq_true hmem] at this
                  exact this
                have nm : n2 + 1 ≤ m + 1 := by
                  rcases Nat.lt_or_ge n2 (m + 1) with h | h
                  · omega
                  · exfalso
                    obtain rfl : n2 = m + 1 := by omega
                    rcases HM.out with ⟨h1, _⟩ | ⟨h1, h2, _⟩
                    · omega
                    · rw [← HT.out] at h2; exact h2 hmem
                have NM := Lib.hid nm
                clear hmem nm
                go_wp2_with fail
                refine (DC.out _).mono ?_
                rintro e w2 ⟨rfl, q, rfl⟩
                have B2 := Lib.hid (below_drewN BL.out q)
                go_wp2_with fail
                refine (HH.out _ (A0.out.below B2.out)).mono ?_
                rintro e w3 ⟨rfl, rfl⟩
                go_wp2_with fail
                go_roundw
                case rel => exact ⟨n2 + 1, by omega, NM.out, by omega, by go_num, B2.out⟩
                case measure => simp [intOf]; omega
              · have HH : Hid (∀ w, StrsAt w p taken → Calls Tryz.prog 31 #[.slice p m0 cap, .string ⟨T.toArray⟩] w fun e w' => e = .returned (.bool false) ∧ w' = w) := by
                  intro W hW
                  have := has_any p m0 cap taken ⟨T.toArray⟩ W HL.out (by omega) hW
                  rw [bs_mk, decide_eq_false hmem] at this
                  exact this
                have Q : Hid (X = ⟨T.toArray⟩ ∧ E = 0) := by
                  have hge : ¬ n2 < m + 1 := fun h => by
                    have := HIN.out n2 hn1 h
                    rw [← HT.out] at this; exact hmem this
                  obtain rfl : n2 = m + 1 := by omega
                  rcases HM.out with ⟨h1, _⟩ | ⟨h1, h2, h3, h4⟩
                  · omega
                  · exact ⟨by rw [h3, HT.out], h4⟩
                obtain ⟨rfl, rfl⟩ := Q.out
                clear hmem Q
                go_wp2_with fail
                refine (DC.out _).mono ?_
                rintro e w2 ⟨rfl, q, rfl⟩
                have B2 := Lib.hid (below_drewN BL.out q)
                go_wp2_with fail
                refine (HH.out _ (A0.out.below B2.out)).mono ?_
                rintro e w3 ⟨rfl, rfl⟩
                go_wp2_with fail
                refine (DC.out _).mono ?_
                rintro e w4 ⟨rfl, q2, rfl⟩
                go_wp2_with fail
                go_ret2
                exact ⟨rfl, below_drewN BL.out _⟩
            · obtain rfl : n2 = 1000 := by omega
              have Q : Hid (X = ⟨#[]⟩ ∧ E = 12) := by
                rcases HM.out with ⟨_, h2, h3⟩ | ⟨h1, _⟩
                · exact ⟨h2, h3⟩
                · omega
              obtain ⟨rfl, rfl⟩ := Q.out
              clear Q
              go_wp2_with fail
              go_ret2
              exact ⟨rfl, BL.out⟩
        · have f0 := f1.ne
          have ne : (above.toList == []) = false := by rw [tl, beq_eq_false_iff_ne]; exact f0
          have ne2 : above.toList.isEmpty = false := by rw [tl]; cases h : bs above with | nil => exact absurd h f0 | cons a b => rfl
          by_cases hk6 : k = 6
          · have dk : decide ((k : Int) ≥ 6) = true := by rw [decide_eq_true_iff]; omega
            have Q : Hid (X = ⟨#[]⟩ ∧ E = 12) := by
              rcases FE.out with ⟨_, h⟩ | ⟨h, _⟩
              · exact h
              · omega
            obtain ⟨rfl, rfl⟩ := Q.out
            clear f0 f1 FE Q hk6
            go_wp2_with fail
            refine (PP.out _ (E0.out.below BB.out)).mono ?_
            rintro e w2 ⟨q, c, rfl, _, _, hb⟩
            have B2 := Lib.hid (BB.out.trans (hb.mono BB.out.size))
            clear hb
            go_wp2_with fail
            go_ret2
            exact ⟨rfl, B2.out⟩
          · have dk : decide ((k : Int) ≥ 6) = false := by rw [decide_eq_false_iff_not]; omega
            obtain ⟨hk6', m, hm9, hin, hend⟩ : k < 6 ∧ ∃ m : Nat, m ≤ 999 ∧ (∀ n : Nat, 1 ≤ n → n < m + 1 → textOf (ns ++ [(n : Int)]) ∈ taken.map bs) ∧ ((m = 999 ∧ X = ⟨#[]⟩ ∧ E = 12) ∨ (m < 999 ∧ textOf (ns ++ [((m + 1 : Nat) : Int)]) ∉ taken.map bs ∧ X = ⟨(textOf (ns ++ [((m + 1 : Nat) : Int)])).toArray⟩ ∧ E = 0)) := by
              rcases FE.out with ⟨h, _⟩ | h
              · omega
              · exact h
            have HIN := Lib.hid hin; have HM := Lib.hid hend
            have FR : Hid (∀ n : Nat, (bs above ++ [46]) ++ Lib.decDigits n = textOf (ns ++ [(n : Int)])) := by
              intro n
              rw [textOf_snoc f1.1.ne, ← f1.2]
              unfold Lib.itoa
              rw [if_neg (by omega), Int.toNat_natCast]; simp
            have al := f1.len
            have AF : ∀ W : World, (Op.stringOp .add above ⟨#[46]⟩).run Tryz.prog W = .ok (.string ⟨(bs above ++ [46]).toArray⟩) W := by
              intro W
              have := add_texts (bs above) [46] (by omega) (by simp) W
              rw [mk_bs] at this
              exact this
            obtain ⟨Fr, hFr⟩ : ∃ Fr : List UInt8, Fr = bs above ++ [46] := ⟨_, rfl⟩
            have fl : Fr.length ≤ 30 := by rw [hFr, List.length_append]; simp; omega
            rw [← hFr] at FR AF
            clear f0 f1 hin hend FE hk6 hFr al
            go_wp2_with fail
            refine (PP.out _ (E0.out.below BB.out)).mono ?_
            rintro e w2 ⟨q, c, rfl, _, _, hb⟩
            have B2 := Lib.hid (BB.out.trans (hb.mono BB.out.size))
            clear hb
            go_wp2_with fail
            go_loopw [10] (fun i wr => ∃ n : Nat, 1 ≤ n ∧ n ≤ m + 1 ∧ n ≤ 1000 ∧ i = .int .i64 n ∧ Below w.heap.size w wr) (fun i _ => 1000 - (intOf i).toNat)
            case atStart => exact ⟨1, by omega, by omega, by omega, rfl, B2.out⟩
            case round =>
              obtain ⟨n2, hn1, hnm, hn3, rfl, hb⟩ := hrel
              have BL := Lib.hid hb
              clear hb
              by_cases hlt : n2 < 1000
              · have dn : decide ((n2 : Int) ≤ 999) = true := by rw [decide_eq_true_iff]; omega
                have DC := Lib.hid (fun w => Decimal_any 3 n2 w (by omega) (by omega))
                have dl := digits_len n2
                obtain ⟨D, hD⟩ : ∃ D, D = Lib.decDigits n2 := ⟨_, rfl⟩
                rw [← hD] at DC dl
                have ADD := add_texts Fr D (by omega) (by omega)
                have ht : Fr ++ D = textOf (ns ++ [(n2 : Int)]) := by rw [hD]; exact FR.out n2
                obtain ⟨T, hT⟩ : ∃ T, T = Fr ++ D := ⟨_, rfl⟩
                rw [← hT] at ADD ht
                have HT := Lib.hid ht
                clear hD hT ht
                by_cases hmem : T ∈ taken.map bs
                · have HH : Hid (∀ w, StrsAt w p taken → Calls Tryz.prog 31 #[.slice p m0 cap, .string ⟨T.toArray⟩] w fun e w' => e = .returned (.bool true) ∧ w' = w) := by
                    intro W hW
                    have := has_any p m0 cap taken ⟨T.toArray⟩ W HL.out (by omega) hW
                    rw [bs_mk, decide_eq_true hmem] at this
                    exact this
                  have nm : n2 + 1 ≤ m + 1 := by
                    rcases Nat.lt_or_ge n2 (m + 1) with h | h
                    · omega
                    · exfalso
                      obtain rfl : n2 = m + 1 := by omega
                      rcases HM.out with ⟨h1, _⟩ | ⟨h1, h2, _⟩
                      · omega
                      · rw [← HT.out] at h2; exact h2 hmem
                  have NM := Lib.hid nm
                  clear hmem nm
                  go_wp2_with fail
                  refine (DC.out _).mono ?_
                  rintro e w2 ⟨rfl, q, rfl⟩
                  have B2 := Lib.hid (below_drewN BL.out q)
                  go_wp2_with fail
                  refine (HH.out _ (A0.out.below B2.out)).mono ?_
                  rintro e w3 ⟨rfl, rfl⟩
                  go_wp2_with fail
                  go_roundw
                  case rel => exact ⟨n2 + 1, by omega, NM.out, by omega, by go_num, B2.out⟩
                  case measure => simp [intOf]; omega
                · have HH : Hid (∀ w, StrsAt w p taken → Calls Tryz.prog 31 #[.slice p m0 cap, .string ⟨T.toArray⟩] w fun e w' => e = .returned (.bool false) ∧ w' = w) := by
                    intro W hW
                    have := has_any p m0 cap taken ⟨T.toArray⟩ W HL.out (by omega) hW
                    rw [bs_mk, decide_eq_false hmem] at this
                    exact this
                  have Q : Hid (X = ⟨T.toArray⟩ ∧ E = 0) := by
                    have hge : ¬ n2 < m + 1 := fun h => by
                      have := HIN.out n2 hn1 h
                      rw [← HT.out] at this; exact hmem this
                    obtain rfl : n2 = m + 1 := by omega
                    rcases HM.out with ⟨h1, _⟩ | ⟨h1, h2, h3, h4⟩
                    · omega
                    · exact ⟨by rw [h3, HT.out], h4⟩
                  obtain ⟨rfl, rfl⟩ := Q.out
                  clear hmem Q
                  go_wp2_with fail
                  refine (DC.out _).mono ?_
                  rintro e w2 ⟨rfl, q, rfl⟩
                  have B2 := Lib.hid (below_drewN BL.out q)
                  go_wp2_with fail
                  refine (HH.out _ (A0.out.below B2.out)).mono ?_
                  rintro e w3 ⟨rfl, rfl⟩
                  go_wp2_with fail
                  refine (DC.out _).mono ?_
                  rintro e w4 ⟨rfl, q2, rfl⟩
                  go_wp2_with fail
                  go_ret2
                  exact ⟨rfl, below_drewN BL.out _⟩
              · obtain rfl : n2 = 1000 := by omega
                have Q : Hid (X = ⟨#[]⟩ ∧ E = 12) := by
                  rcases HM.out with ⟨_, h2, h3⟩ | ⟨h1, _⟩
                  · exact ⟨h2, h3⟩
                  · omega
                obtain ⟨rfl, rfl⟩ := Q.out
                clear Q
                go_wp2_with fail
                go_ret2
                exact ⟨rfl, BL.out⟩

/-- The reference's Free answers what is settled. -/
theorem refFree_any (taken : List ByteArray) (above X : ByteArray) (E : Int) (hs : ∀ x ∈ taken, x.size ≤ 1000000000000) (ha : above.size ≤ 1000000000000) (hn : taken.length ≤ 1024) (hF : FreeR (taken.map bs) (bs above) X E)
    (p : Option Addr) (n cap : Nat) (w : World) (hE : Env w) (hl : taken.length = n) (hA : StrsAt w p taken) :
    Calls Tryz.prog 11 #[.slice p n cap, .string above] w fun e w' => e = .returned (.tuple #[.string X, .int .i64 E]) ∧ Below w.heap.size w w' := by
  subst hl
  have sz : ∀ j, j < taken.length → (taken.getD j emp).size ≤ 1000000000000 := fun j hj => by
    have : taken.getD j emp ∈ taken := by simp [List.getD, hj]
    exact hs _ this
  have good : ∀ j, j < taken.length → (∃ ns, Is (bs (taken.getD j emp)) ns) → ∃ xs k, PAns 27 (taken.getD j emp) xs k 0 := fun j hj ⟨ns, h⟩ => by
    rcases refParse_ans (taken.getD j emp) (sz j hj) with ⟨xs, _, h2⟩ | ⟨h2, _⟩
    · exact ⟨_, _, h2⟩
    · exact absurd h (h2 ns)
  have bad : ∀ j, j < taken.length → (∀ ns, ¬ Is (bs (taken.getD j emp)) ns) → ∃ xs k, PAns 27 (taken.getD j emp) xs k 3 := fun j hj h => by
    rcases refParse_ans (taken.getD j emp) (sz j hj) with ⟨xs, h1, _⟩ | ⟨_, h2⟩
    · exact absurd h1 (h xs)
    · exact ⟨_, _, h2⟩
  rcases hF with ⟨rfl, rfl, hw⟩ | ⟨hall, ns, hns, hend⟩
  · rcases hw with ⟨t, ht, hb⟩ | ⟨hall, h0, hb⟩
    · obtain ⟨m, h1, h2, h3⟩ := first_not (fun j => ∃ ns, Is (bs (taken.getD j emp)) ns) taken.length
      obtain ⟨j0, hj0, e0⟩ := mem_bs ht
      have hm : m ≠ taken.length := fun e => by
        obtain ⟨ns, k⟩ := h2 j0 (by omega)
        exact hb ns (by rw [e0]; exact k)
      have hlt := Nat.lt_of_le_of_ne h1 hm
      have hbad : ∀ ns, ¬ Is (bs (taken.getD m emp)) ns := fun ns k => (h3.resolve_left hm) ⟨ns, k⟩
      exact refFree_loop p _ cap m taken above _ _ w hE rfl hn hA h1 (fun j hj => good j (Nat.lt_trans hj hlt) (h2 j hj)) (.inl ⟨hlt, bad m hlt hbad, rfl, rfl⟩)
    · refine refFree_loop p _ cap taken.length taken above _ _ w hE rfl hn hA (Nat.le_refl _) (fun j hj => good j hj (hall _ (bs_mem hj))) (.inr ⟨rfl, .inl ⟨h0, ?_, rfl, rfl⟩⟩)
      rcases refParse_ans above ha with ⟨xs, h1, _⟩ | ⟨_, h2⟩
      · exact absurd h1 (hb xs)
      · exact h2
  · refine refFree_loop p _ cap taken.length taken above _ _ w hE rfl hn hA (Nat.le_refl _) (fun j hj => good j hj (hall _ (bs_mem hj))) (.inr ⟨rfl, .inr ?_⟩)
    have hl6 : ns.length ≤ 6 := by
      rcases hns with ⟨_, rfl⟩ | h
      · simp
      · exact h.1.2.1
    have hp : ∃ F, ((bs above = [] ∧ ns = [] ∧ F = 3) ∨ (Is (bs above) ns ∧ F = 0)) ∧ PAns 27 above ns ns.length F := by
      rcases hns with ⟨h1, rfl⟩ | h
      · refine ⟨3, .inl ⟨h1, rfl, rfl⟩, ?_⟩
        rcases refParse_ans above ha with ⟨xs, h2, _⟩ | ⟨_, h2⟩
        · exact absurd h1 h2.ne
        · exact h2
      · refine ⟨0, .inr ⟨h, rfl⟩, ?_⟩
        rcases refParse_ans above ha with ⟨xs, h2, h3⟩ | ⟨h2, _⟩
        · obtain rfl := h.unique h2
          exact h3
        · exact absurd h (h2 ns)
    obtain ⟨F, f1, f2⟩ := hp
    refine ⟨ns, ns.length, F, f1, f2, rfl, hl6, ?_⟩
    rcases hend with ⟨rfl, rfl, h | h⟩ | ⟨rfl, h6, m, hm1, hm2, rfl, hnot, hin⟩
    · exact .inl ⟨h, rfl, rfl⟩
    · by_cases h6 : ns.length = 6
      · exact .inl ⟨h6, rfl, rfl⟩
      · exact .inr ⟨by omega, 999, Nat.le_refl _, h, .inl ⟨rfl, rfl, rfl⟩⟩
    · refine .inr ⟨h6, m - 1, by omega, fun n a b => hin n a (by omega), .inr ?_⟩
      rw [show m - 1 + 1 = m by omega]
      exact ⟨by omega, hnot, rfl, rfl⟩

end Go.Proofs.YtbpoggdinefkeaaGreatDoor
