/-
  The reference's Decimal, Format, Parent. No statement of the seat is proved here.
-/
import Derived.Test.YtbjbioiggjhknaaGreatDoorRa
import Derived.Deep.QuietTactic
import Derived.BigQuiet
namespace Go.Proofs.YtbjbioiggjhknaaGreatDoor
open Go Go.RowKit Go.Shelf

theorem digit_cut : ∀ d : Fin 10, (⟨#[48, 49, 50, 51, 52, 53, 54, 55, 56, 57]⟩ : ByteArray).extract d.val (d.val + 1) = ⟨#[UInt8.ofNat (48 + d.val)]⟩ := by decide +kernel

set_option maxRecDepth 100000 in
theorem Decimal_small (n : Nat) (w : World) (h : n < 10) : Calls Tryz.prog 105 #[.int .i64 n] w fun e w' => e = .returned (.string ⟨(Lib.decDigits n).toArray⟩) ∧ ∃ m, w' = w.drewN m := by
  have d1 : decide ((n : Int) < 10) = true := by rw [decide_eq_true_iff]; omega
  have e1 : (0 : Int) ≤ (n : Int) := by omega
  have e2 : (n : Int) ≤ (n : Int) + 1 := by omega
  have e3 : (n : Int) + 1 ≤ (10 : Int) := by omega
  have e4 : ((n : Int) + 1).toNat = n + 1 := by omega
  have e5 := digit_cut ⟨n, h⟩
  have e6 : Lib.decDigits n = [UInt8.ofNat (48 + n)] := Lib.decDigits_one h
  rw [e6]
  go_enter Tryz.func105, Tryz.ntmps105
  go_wp2_with fail
  go_ret
  exact ⟨rfl, 0, rfl⟩

theorem digits_len (n : Nat) : (Lib.decDigits n).length ≤ n + 1 := by
  induction n using Nat.strongRecOn with
  | ind n ih =>
    by_cases h : n < 10
    · rw [Lib.decDigits_one h]; simp
    · rw [Lib.decDigits, dif_neg h, List.length_append, List.length_singleton]
      have := ih (n / 10) (by omega)
      omega
/-- Two texts, one behind the other. -/
theorem add_texts (x y : List UInt8) (hx : x.length ≤ 2000000000) (hy : y.length ≤ 2000000000) (W : World) : (Op.stringOp .add ⟨x.toArray⟩ ⟨y.toArray⟩).run Tryz.prog W = .ok (.string ⟨(x ++ y).toArray⟩) W := by
  rw [run_string_add_sum W _ _ (by simp [ByteArray.size]; omega), ByteArray.mk_append_mk]

set_option maxRecDepth 100000 in
set_option maxHeartbeats 4000000 in
theorem Decimal_any : ∀ (k n : Nat) (w : World), n < 10 ^ k → n < 1000000000 → Calls Tryz.prog 105 #[.int .i64 n] w fun e w' => e = .returned (.string ⟨(Lib.decDigits n).toArray⟩) ∧ ∃ m, w' = w.drewN m := by
  intro k
  induction k with
  | zero =>
    intro n w h0 _
    exact Decimal_small n w (by simp at h0; omega)
  | succ k ih =>
    intro n w hn hb
    by_cases h : n < 10
    · exact Decimal_small n w h
    · have d1 : decide ((n : Int) < 10) = false := by rw [decide_eq_false_iff_not]; omega
      have IH := Lib.hid (fun w => ih (n / 10) w (by rw [Nat.pow_succ] at hn; omega) (by omega))
      have q1 : Int.tdiv (n : Int) 10 = ((n / 10 : Nat) : Int) := by rw [Int.tdiv_eq_ediv_of_nonneg (by omega)]; omega
      have q2 : Int.tmod (n : Int) 10 = ((n % 10 : Nat) : Int) := by rw [Int.tmod_eq_emod_of_nonneg (by omega)]; omega
      have hlt : n % 10 < 10 := Nat.mod_lt _ (by omega)
      obtain ⟨r, hr⟩ : ∃ r, r = n % 10 := ⟨_, rfl⟩
      obtain ⟨q, hq⟩ : ∃ q, q = n / 10 := ⟨_, rfl⟩
      have e6 : Lib.decDigits n = Lib.decDigits q ++ [UInt8.ofNat (48 + r)] := by rw [Lib.decDigits, dif_neg h, hr, hq]
      rw [← hr] at q2 hlt
      rw [← hq] at q1 IH
      have hq9 : q < 1000000000 := by omega
      clear hr hq
      have e0 : (0 : Int) ≤ (r : Int) := by omega
      have e2 : (r : Int) ≤ (r : Int) + 1 := by omega
      have e3 : (r : Int) + 1 ≤ (10 : Int) := by omega
      have e4 : ((r : Int) + 1).toNat = r + 1 := by omega
      have e5 := digit_cut ⟨r, hlt⟩
      have w2 : IntKind.i64.wrap (q : Int) = (q : Int) := IntWalk.i64_in _ (by omega)
      have w1 : IntKind.i64.wrap ((r : Int) + 1) = (r : Int) + 1 := IntWalk.i64_in _ (by omega)
      rw [e6]
      obtain ⟨D, hD⟩ : ∃ D, D = Lib.decDigits q := ⟨_, rfl⟩
      have hl : D.length ≤ 1000000001 := by rw [hD]; have := digits_len q; omega
      rw [← hD] at IH ⊢
      clear hD e6
      obtain ⟨u, hu⟩ : ∃ u, u = UInt8.ofNat (48 + r) := ⟨_, rfl⟩
      simp only [← hu] at e5
      rw [← hu]
      clear hu
      have ADD := add_texts D [u] (by omega) (by simp)
      have ADD2 : ∀ W : World, (Op.stringOp .add ⟨D.toArray⟩ ⟨#[u]⟩).run Tryz.prog W = .ok (.string ⟨(D ++ [u]).toArray⟩) W := ADD
      clear ADD
      go_enter Tryz.func105, Tryz.ntmps105
      go_wp2_with fail
      go_quiet (first | (go_at_call 105; refine Calls.quiet_of (IH.out _)))
      go_wp2_with fail
      go_ret
      exact ⟨rfl, _, rfl⟩

theorem take_snoc' {xs : List Int} {k : Nat} (h : k < xs.length) : xs.take (k + 1) = xs.take k ++ [xs.getD k 0] := by
  rw [List.take_succ_eq_append_getElem h]
  simp [List.getD, h]
theorem itoa_nat (n : Nat) : Lib.itoa (n : Int) = Lib.decDigits n := by
  unfold Lib.itoa
  rw [if_neg (by omega), Int.toNat_natCast]

theorem refFormat_len (p : Option Addr) (n cap : Nat) (w : World) (h : n = 0 ∨ 6 < n) (hb : n ≤ 1000000000000) : Calls Tryz.prog 95 #[.slice p n cap] w fun e w' => e = .returned (.tuple #[.string ⟨#[]⟩, .int .i64 2]) ∧ w = w' := by
  rcases h with rfl | h
  · go_enter Tryz.func95, Tryz.ntmps95
    go_wp2_with fail
    go_ret2
    exact ⟨rfl, rfl⟩
  · have d1 : decide ((n : Int) < 1) = false := by rw [decide_eq_false_iff_not]; omega
    have d2 : decide ((n : Int) > 6) = true := by rw [decide_eq_true_iff]; omega
    go_enter Tryz.func95, Tryz.ntmps95
    go_wp2_with fail
    go_ret2
    exact ⟨rfl, rfl⟩

set_option maxRecDepth 100000 in
set_option maxHeartbeats 4000000 in
theorem refFormat_loop (b o cap m n : Nat) (ns : List Int) (X : ByteArray) (E : Int) (w : World) (hc : ∀ j, j < ns.length → w.cell? ⟨b, o + j, none⟩ = some (.int .i64 (ns.getD j 0))) (hn : ns.length = n) (h1 : 1 ≤ n) (h6 : n ≤ 6) (hm : m ≤ n)
    (hg : ∀ j, j < m → 1 ≤ ns.getD j 0 ∧ ns.getD j 0 ≤ 999)
    (hR : (m = n ∧ X = ⟨(textOf ns).toArray⟩ ∧ E = 0) ∨ (m < n ∧ ¬ (1 ≤ ns.getD m 0 ∧ ns.getD m 0 ≤ 999) ∧ X = ⟨#[]⟩ ∧ E = 2)) :
    Calls Tryz.prog 95 #[.slice (some ⟨b, o, none⟩) n cap] w fun e w' => e = .returned (.tuple #[.string X, .int .i64 E]) ∧ Below w.heap.size w w' := by
  have d1 : decide ((n : Int) < 1) = false := by rw [decide_eq_false_iff_not]; omega
  have d2 : decide ((n : Int) > 6) = false := by rw [decide_eq_false_iff_not]; omega
  have HC := Lib.hid hc; have HG := Lib.hid hg; have HR := Lib.hid hR; have HN := Lib.hid hn
  clear hc hg hR hn
  go_enter Tryz.func95, Tryz.ntmps95
  go_wp2_with fail
  go_loopw [4, 5] (fun s i wr => ∃ k : Nat, k ≤ m ∧ i = .int .i64 k ∧ s = .string ⟨(textOf (ns.take k)).toArray⟩ ∧ Below w.heap.size w wr) (fun _ i _ => n - (intOf i).toNat)
  case atStart => exact ⟨0, Nat.zero_le _, rfl, rfl, Below.refl _ _⟩
  case round =>
    obtain ⟨k, hk, rfl, rfl, hb⟩ := hrel
    have B := Lib.hid hb
    clear hb
    have TL : (textOf (ns.take k)).length ≤ 4 * k := by
      refine Nat.le_trans (textOf_len (fun x hx => ?_)) (by rw [List.length_take]; omega)
      obtain ⟨j, hj, rfl⟩ := List.getElem_of_mem hx
      rw [List.length_take] at hj
      have := HG.out j (by omega)
      rw [List.getElem_take]
      simpa [List.getD, (show j < ns.length by omega)] using this
    by_cases hlt : k < n
    · obtain ⟨T, hT⟩ : ∃ T, T = textOf (ns.take k) := ⟨_, rfl⟩
      rw [← hT] at TL ⊢
      have c1 : wr.cell? ⟨b, o + k, none⟩ = some (.int .i64 (ns.getD k 0)) := by
        have c := HC.out k (by have := HN.out; omega)
        exact (B.out.cell (p := ⟨b, o + k, none⟩) (World.block_lt_of_cell? w _ c)).trans c
      obtain ⟨x, hx⟩ : ∃ x, x = ns.getD k 0 := ⟨_, rfl⟩
      rw [← hx] at c1
      by_cases hg : 1 ≤ x ∧ x ≤ 999
      · obtain ⟨xn, rfl⟩ := Int.eq_ofNat_of_zero_le (show 0 ≤ x by omega)
        have g1 : decide ((xn : Int) < 1) = false := by rw [decide_eq_false_iff_not]; omega
        have g2 : decide ((xn : Int) > 999) = false := by rw [decide_eq_false_iff_not]; omega
        have hkm : Hid (k + 1 ≤ m) := by
          rcases HR.out with ⟨rfl, _⟩ | ⟨h2, h3, _⟩
          · exact hlt
          · rcases Nat.lt_or_ge k m with h4 | h4
            · exact h4
            · obtain rfl : k = m := by omega
              rw [← hx] at h3; exact absurd hg h3
        have DC := Lib.hid (fun w => Decimal_any 3 xn w (by omega) (by omega))
        obtain ⟨D, hD⟩ : ∃ D, D = Lib.decDigits xn := ⟨_, rfl⟩
        have hdx : D = Lib.itoa (ns.getD k 0) := by rw [hD, ← itoa_nat, hx]
        have HDX := Lib.hid hdx
        clear hdx
        have hDl : D.length ≤ 1000 := by rw [hD]; have := digits_len xn; omega
        rw [← hD] at DC
        clear hD
        have hV0 := Lib.hid hT
        clear hT hg hx
        by_cases hk0 : k = 0
        · have A2 := add_texts T D (by omega) (by omega)
          have dk : decide ((k : Int) > 0) = false := by rw [decide_eq_false_iff_not]; omega
          have dk3 : decide (0 < k) = false := by rw [decide_eq_false_iff_not]; omega
          have kp : ¬ 0 < k := by omega
          have nx : T ++ D = textOf (ns.take (k + 1)) := by
            rw [take_snoc' (by have := HN.out; omega), hV0.out, HDX.out, hk0]; rfl
          obtain ⟨V, hV⟩ : ∃ V, V = T ++ D := ⟨_, rfl⟩
          rw [← hV] at A2 nx
          have NX := Lib.hid nx
          clear hV nx hk0
          go_wp2_with fail
          refine (DC.out _).mono ?_
          rintro e w2 ⟨rfl, q, rfl⟩
          have B2 := Lib.hid (below_drewN B.out q)
          go_wp2_with fail
          go_roundw
          case rel => exact ⟨k + 1, hkm.out, by go_num, by rw [NX.out], B2.out⟩
          case measure => simp [intOf]; omega
        · have A1 : ∀ W : World, (Op.stringOp .add ⟨T.toArray⟩ ⟨#[46]⟩).run Tryz.prog W = .ok (.string ⟨(T ++ [46]).toArray⟩) W := add_texts T [46] (by omega) (by simp)
          have A2 := add_texts (T ++ [46]) D (by simp; omega) (by omega)
          have dk : decide ((k : Int) > 0) = true := by rw [decide_eq_true_iff]; omega
          have dk3 : decide (0 < k) = true := by rw [decide_eq_true_iff]; omega
          have kp : 0 < k := by omega
          have nx : (T ++ [46]) ++ D = textOf (ns.take (k + 1)) := by
            rw [take_snoc' (by have := HN.out; omega), textOf_snoc (by intro e; have := congrArg List.length e; rw [List.length_take, HN.out, List.length_nil] at this; omega), ← HDX.out, ← hV0.out]; simp
          obtain ⟨U, hU⟩ : ∃ U, U = T ++ [46] := ⟨_, rfl⟩
          rw [← hU] at A1 A2 nx
          clear hU
          obtain ⟨V, hV⟩ : ∃ V, V = U ++ D := ⟨_, rfl⟩
          rw [← hV] at A2 nx
          have NX := Lib.hid nx
          clear hV nx hk0
          go_wp2_with fail
          refine (DC.out _).mono ?_
          rintro e w2 ⟨rfl, q, rfl⟩
          have B2 := Lib.hid (below_drewN B.out q)
          go_wp2_with fail
          go_roundw
          case rel => exact ⟨k + 1, hkm.out, by go_num, by rw [NX.out], B2.out⟩
          case measure => simp [intOf]; omega
      · have HQ : Hid (X = ⟨#[]⟩ ∧ E = 2) := by
          rcases HR.out with ⟨h2, _⟩ | ⟨h2, h3, h4⟩
          · rw [hx] at hg; exact absurd (HG.out k (by omega)) hg
          · exact h4
        obtain ⟨rfl, rfl⟩ := HQ.out
        have hor : x < 1 ∨ (1 ≤ x ∧ 999 < x) := by omega
        clear hg hx HQ hT
        rcases hor with hc | ⟨hc0, hc⟩
        · have g1 : decide (x < 1) = true := by rw [decide_eq_true_iff]; omega
          go_wp2_with fail
          go_ret2
          exact ⟨rfl, B.out⟩
        · have g1 : decide (x < 1) = false := by rw [decide_eq_false_iff_not]; omega
          have g2 : decide (x > 999) = true := by rw [decide_eq_true_iff]; omega
          go_wp2_with fail
          go_ret2
          exact ⟨rfl, B.out⟩
    · obtain rfl : k = n := by omega
      have HQ : Hid (X = ⟨(textOf (ns.take k)).toArray⟩ ∧ E = 0) := by
        rw [List.take_of_length_le (by rw [HN.out]; exact Nat.le_refl _)]
        rcases HR.out with ⟨_, h2⟩ | ⟨h2, _⟩
        · exact h2
        · omega
      rw [← HQ.out.1]
      obtain rfl := HQ.out.2
      clear HQ
      go_wp2_with fail
      go_ret2
      exact ⟨rfl, B.out⟩

theorem refFormat_ok (p : Option Addr) (cap n : Nat) (ns : List Int) (w : World) (hn : ns.length = n) (hA : IntsAt w p ns) (hg : GoodL ns) :
    Calls Tryz.prog 95 #[.slice p n cap] w fun e w' => e = .returned (.tuple #[.string ⟨(textOf ns).toArray⟩, .int .i64 0]) ∧ Below w.heap.size w w' := by
  rcases hA with rfl | ⟨b, o, rfl, hc⟩
  · exact absurd rfl hg.ne
  · refine refFormat_loop b o cap n n ns _ _ w hc hn (by rw [← hn]; exact hg.1) (by rw [← hn]; exact hg.2.1) (Nat.le_refl _) (fun j hj => ?_) (.inl ⟨rfl, rfl, rfl⟩)
    have hj' : j < ns.length := by omega
    have := hg.2.2 ns[j] (List.getElem_mem hj')
    simpa [List.getD, hj'] using this
theorem refFormat_bad (p : Option Addr) (cap n : Nat) (ns : List Int) (w : World) (hn : ns.length = n) (hA : IntsAt w p ns) (hg : ¬ GoodL ns) (hl : n ≤ 1000000000000) :
    Calls Tryz.prog 95 #[.slice p n cap] w fun e w' => e = .returned (.tuple #[.string ⟨#[]⟩, .int .i64 2]) ∧ Below w.heap.size w w' := by
  by_cases h0 : n = 0 ∨ 6 < n
  · exact (refFormat_len p n cap w h0 hl).mono fun e w' ⟨h1, h2⟩ => ⟨h1, by rw [h2]; exact Below.refl _ _⟩
  rcases hA with rfl | ⟨b, o, rfl, hc⟩
  · exact absurd (.inl hn.symm) h0
  · obtain ⟨m, h1, h2, h3⟩ := first_not (fun j => 1 ≤ ns.getD j 0 ∧ ns.getD j 0 ≤ 999) n
    refine refFormat_loop b o cap m n ns _ _ w hc hn (by omega) (by omega) h1 h2 (.inr ?_)
    rcases h3 with rfl | h3
    · refine absurd ⟨by omega, by omega, fun x hx => ?_⟩ hg
      obtain ⟨j, hj, rfl⟩ := List.getElem_of_mem hx
      have := h2 j (by omega)
      simpa [List.getD, hj] using this
    · refine ⟨?_, h3, rfl, rfl⟩
      rcases Nat.lt_or_ge m n with h4 | h4
      · exact h4
      · obtain rfl : m = n := by omega
        refine absurd ⟨by omega, by omega, fun x hx => ?_⟩ hg
        obtain ⟨j, hj, rfl⟩ := List.getElem_of_mem hx
        have := h2 j (by omega)
        simpa [List.getD, hj] using this

set_option maxRecDepth 100000 in
theorem refParent_yes (s : ByteArray) (ms : List Int) (n : Int) (w : World) (h0 : ms ≠ []) (hi : Is (bs s) (ms ++ [n])) :
    Calls Tryz.prog 80 #[.string s] w fun e w' => e = .returned (.tuple #[.string ⟨(textOf ms).toArray⟩, .bool true]) ∧ Below w.heap.size w w' := by
  have P := Lib.hid (refParse_ok s _ w hi)
  have GM := Lib.hid (hi.1.init h0)
  have hl : 1 ≤ ms.length := by rcases ms with _ | ⟨a, b⟩; exact absurd rfl h0; simp
  have h6 : ms.length + 1 ≤ 6 := by have := hi.1.2.1; rw [List.length_append, List.length_singleton] at this; exact this
  rw [List.length_append, List.length_singleton] at P
  have FO := Lib.hid (fun (w : World) p c (hA : IntsAt w p ms) => refFormat_ok p c ms.length ms w rfl hA GM.out)
  obtain ⟨K, hK⟩ : ∃ K, K = ms.length := ⟨_, rfl⟩
  obtain ⟨L, hL⟩ : ∃ L, L = ms.length + 1 := ⟨_, rfl⟩
  have HK := Lib.hid hK; have HL := Lib.hid hL
  rw [← hL] at P
  rw [← hK] at FO
  have i1 : (L : Int) - 1 = K := by omega
  have d2 : decide ((L : Int) < 2) = false := by rw [decide_eq_false_iff_not]; omega
  have l6 : L ≤ 6 := by omega
  have kl : K ≤ L := by omega
  clear hi h0 hl h6 hK hL
  go_enter Tryz.func80, Tryz.ntmps80
  go_wp2_with fail
  refine P.out.mono ?_
  rintro e w1 ⟨p, c, rfl, hr, hb⟩
  have LC : L ≤ c := by
    rcases hr.2 with ⟨_, h⟩ | ⟨g, cap, cur, e, _, _, h, _⟩
    · omega
    · have : c = cap := by simpa using (Value.slice.inj e).2.2
      omega
  have X1 : Hid (IntsAt w1 p ms) := by
    have hr2 := hr
    rw [show L = (ms ++ [n]).length by rw [List.length_append, List.length_singleton, HL.out]] at hr2
    rcases intsAt_of_row hr2 with h | ⟨b, o, rfl, h⟩
    · exact absurd h (by simp)
    · refine .inr ⟨b, o, rfl, fun j hj => ?_⟩
      have := h j (by rw [List.length_append]; omega)
      rw [this]
      simp [List.getD, List.getElem?_append_left hj]
  have B1 := Lib.hid hb
  clear hr hb P
  go_wp2_with fail
  refine (FO.out _ _ _ X1.out).mono ?_
  rintro e w2 ⟨rfl, hb⟩
  have B2 := Lib.hid (B1.out.trans (hb.mono B1.out.size))
  clear hb
  go_wp2_with fail
  go_ret2
  exact ⟨rfl, B2.out⟩

set_option maxRecDepth 100000 in
theorem refParent_no (s : ByteArray) (w : World) (hs : s.size ≤ 1000000000000) (hi : ∀ ms n, ms ≠ [] → ¬ Is (bs s) (ms ++ [n])) :
    Calls Tryz.prog 80 #[.string s] w fun e w' => e = .returned (.tuple #[.string ⟨#[]⟩, .bool false]) ∧ Below w.heap.size w w' := by
  by_cases hx : ∀ ns, ¬ Is (bs s) ns
  · have P := Lib.hid (refParse_no s w hs hx)
    clear hi hx
    go_enter Tryz.func80, Tryz.ntmps80
    go_wp2_with fail
    refine P.out.mono ?_
    rintro e w1 ⟨rfl, hb⟩
    have B := Lib.hid hb
    clear hb P
    go_wp2_with fail
    go_ret2
    exact ⟨rfl, B.out⟩
  · obtain ⟨ns, hx⟩ := Classical.not_forall_not.1 hx
    have P := Lib.hid (refParse_ok s ns w hx)
    have h1 : ns.length < 2 := by
      rcases Nat.lt_or_ge ns.length 2 with h | h
      · exact h
      · exfalso
        have e : ns = ns.dropLast ++ [ns.getLast (by rintro rfl; simp at h)] := (List.dropLast_concat_getLast _).symm
        rw [e] at hx
        refine hi _ _ ?_ hx
        intro e2
        have := congrArg List.length e2
        rw [List.length_dropLast, List.length_nil] at this
        omega
    obtain ⟨L, hL⟩ : ∃ L, L = ns.length := ⟨_, rfl⟩
    rw [← hL] at P h1
    have d2 : decide ((L : Int) < 2) = true := by rw [decide_eq_true_iff]; omega
    clear hi hx hL
    go_enter Tryz.func80, Tryz.ntmps80
    go_wp2_with fail
    refine P.out.mono ?_
    rintro e w1 ⟨p, c, rfl, _, hb⟩
    have B := Lib.hid hb
    clear hb P
    go_wp2_with fail
    go_ret2
    exact ⟨rfl, B.out⟩


end Go.Proofs.YtbjbioiggjhknaaGreatDoor
