/-
  PROVED HERE: the law archivumlaw05.CodeFree answers true for all inputs: a code that is free is not taken, has the given parent, and all lesser ones with this parent are taken. No condition. Every input is spoken of.
-/
import Derived.Test.YtbpoggdinefkeaaDoorFw
import Derived.Test.YtbpoggdinefkeaaDoorBack
namespace Go.Proofs.YtbpoggdinefkeaaDoor
open Go.ChangeShapes Go.WideShapes Go.ChangeAt Go.RowKit Go.Joins

theorem freeR_det {tk : List (List UInt8)} {ab : List UInt8} {X X' : ByteArray} {E E' : Int} (h : FreeR tk ab X E) (k : FreeR tk ab X' E') : X = X' ∧ E = E' := by
  rcases h with ⟨rfl, rfl, h⟩ | ⟨h, ns, hns, h'⟩ <;> rcases k with ⟨rfl, rfl, k⟩ | ⟨k, ms, hms, k'⟩
  · exact ⟨rfl, rfl⟩
  · exfalso
    rcases h with ⟨t, ht, hb⟩ | ⟨_, h0, hb⟩
    · obtain ⟨ns, hi⟩ := k t ht
      exact hb ns hi
    · rcases hms with ⟨h1, _⟩ | h1
      · exact h0 h1
      · exact hb _ h1
  · exfalso
    rcases k with ⟨t, ht, hb⟩ | ⟨_, h0, hb⟩
    · obtain ⟨ns, hi⟩ := h t ht
      exact hb ns hi
    · rcases hns with ⟨h1, _⟩ | h1
      · exact h0 h1
      · exact hb _ h1
  · have e : ns = ms := by
      rcases hns with ⟨h1, rfl⟩ | h1 <;> rcases hms with ⟨h2, rfl⟩ | h2
      · rfl
      · exact absurd h1 h2.ne
      · exact absurd h2 h1.ne
      · exact h1.unique h2
    subst e
    rcases h' with ⟨rfl, rfl, h1⟩ | ⟨rfl, h6, m, hm1, hm2, rfl, hn, hin⟩ <;> rcases k' with ⟨rfl, rfl, k1⟩ | ⟨rfl, k6, n, hn1, hn2, rfl, kn, kin⟩
    · exact ⟨rfl, rfl⟩
    · exfalso
      rcases h1 with h1 | h1
      · omega
      · exact kn (h1 n hn1 hn2)
    · exfalso
      rcases k1 with k1 | k1
      · omega
      · exact hn (k1 m hm1 hm2)
    · rcases Nat.lt_trichotomy m n with c | rfl | c
      · exact absurd (kin m hm1 c) hn
      · exact ⟨rfl, rfl⟩
      · exact absurd (hin n hn1 c) kn

theorem cfree_law (p : Option Addr) (cap : Nat) (taken : List ByteArray) (above : ByteArray) (x : Int) (w : World) (hE : Env w) (hA : StrsAt w p taken) (hn : taken.length ≤ maxLen) (hx0 : 0 ≤ x) (hx1 : x ≤ 65535) :
    Calls Tryd.prog 7 #[.slice p taken.length cap, .string above, .int .u16 x] w fun e w' => e = .returned (.bool true) ∧ Below w.heap.size w w' := by
  by_cases h : 30 < taken.length
  · exact cfree_long p _ cap taken above x w hE rfl hA h hn
  cases hf : few taken with
  | false => exact cfree_few p _ cap taken above x w hE rfl hA (by omega) hf
  | true =>
    by_cases ha : 100 < above.size
    · exact cfree_above p _ cap taken above x w hE rfl hA (by omega) hf ha
    have hsz : ∀ y ∈ taken, y.size ≤ 1000000000000 := fun y hy => by
      unfold few at hf
      have := (of_decide_eq_true hf).2 y hy
      omega
    have hsz2 : above.size ≤ 1000000000000 := by omega
    obtain ⟨X, E, hR, hF0⟩ := Free_any taken above w hE (by omega) hsz hsz2
    have key : ∀ W, Env W → StrsAt W p taken → Calls Tryd.prog 20 #[.slice p taken.length cap, .string above] W fun e w' => e = .returned (.tuple #[.string X, .int .i64 E]) ∧ Below W.heap.size W w' := by
      intro W hEW hAW
      obtain ⟨X', E', hR', hF'⟩ := Free_any taken above W hEW (by omega) hsz hsz2
      obtain ⟨rfl, rfl⟩ := freeR_det hR' hR
      exact hF' p _ cap rfl hAW
    rcases hR with ⟨rfl, rfl, _⟩ | ⟨hall, ns, hns, (⟨rfl, rfl, _⟩ | ⟨rfl, h6, m, hm1, hm2, rfl, hnot, hin⟩)⟩
    · exact cfree_err p _ cap taken above x w hE rfl hA (by omega) hf (by omega) 3 key (.inl rfl)
    · exact cfree_err p _ cap taken above x w hE rfl hA (by omega) hf (by omega) 12 key (.inr rfl)
    have hgn : GoodN ns := by
      rcases hns with ⟨_, rfl⟩ | h
      · exact fun _ h => by cases h
      · exact h.1.2.2
    have hgl : ∀ k : Int, 1 ≤ k → k ≤ 999 → GoodL (ns ++ [k]) := fun k a b => ⟨by simp, by simp; omega, fun z hz => by
      rcases List.mem_append.1 hz with hz | hz
      · exact hgn z hz
      · rw [List.mem_singleton.1 hz]; omega⟩
    have gm := hgl m (by omega) (by omega)
    obtain ⟨t, ht⟩ : ∃ t, t = textOf (ns ++ [(m : Int)]) := ⟨_, rfl⟩
    have it : Is t (ns ++ [(m : Int)]) := by rw [ht]; exact is_textOf gm
    rw [← ht] at key hnot
    have hP : ∀ w, Env w → Calls Tryd.prog 9 #[.string ⟨t.toArray⟩] w fun e w' => ∃ p c, e = .returned (.tuple #[.slice p (ns.length + 1) c, .int .i64 0]) ∧ w'.ownsRow w.heap.size 3 1 (.slice p (ns.length + 1) c) (ns.length + 1) (ints (ns ++ [(m : Int)])) ∧ Below w.heap.size w w' := by
      intro W hEW
      have := Parse_ok ⟨t.toArray⟩ (ns ++ [(m : Int)]) W hEW (by rw [bs_mk]; exact it)
      rw [show (ns ++ [(m : Int)]).length = ns.length + 1 by simp] at this
      exact this
    have hQ : ∃ more, ∀ w, Env w → Calls Tryd.prog 13 #[.string ⟨t.toArray⟩] w fun e w' => e = .returned (.tuple #[.string above, .bool more]) ∧ Below w.heap.size w w' := by
      rcases hns with ⟨h0, rfl⟩ | hi
      · refine ⟨false, fun W hEW => ?_⟩
        have e0 : above = ⟨#[]⟩ := by rw [← mk_bs above, h0]
        rw [e0]
        refine Parent_no _ W hEW ?_ ?_
        · have := it.len
          rw [← bs_len, bs_mk]; omega
        · intro ms k h0 hh
          rw [bs_mk] at hh
          have := congrArg List.length (it.unique hh)
          have h2 : ms.length ≠ 0 := fun e => h0 (List.length_eq_zero_iff.1 e)
          rw [List.length_append, List.length_append, List.length_nil, List.length_singleton, List.length_singleton] at this
          omega
      · refine ⟨true, fun W hEW => ?_⟩
        have := Parent_yes ⟨t.toArray⟩ ns m W hEW hi.1.ne (by rw [bs_mk]; exact it)
        rw [← hi.2, mk_bs] at this
        exact this
    obtain ⟨more, hQ⟩ := hQ
    have hC : ∀ w, StrsAt w p taken → Calls Tryd.prog 21 #[.slice p taken.length cap, .string ⟨t.toArray⟩] w fun e w' => e = .returned (.bool false) ∧ w' = w := by
      intro W hAW
      have := Contains_any p _ cap taken ⟨t.toArray⟩ W rfl (by omega) hAW
      rw [bs_mk, decide_eq_false hnot] at this
      exact this
    by_cases hk : (m : Int) ≤ 1 + x % 999
    · exact cfree_ge p _ cap taken above x w hE rfl hA (by omega) hf (by omega) ns m t more key _ rfl h6 hP hQ hC hx0 hx1 hk
    · have hr0 : 0 ≤ x % 999 := Int.emod_nonneg _ (by omega)
      obtain ⟨k, hk1⟩ : ∃ k : Nat, (k : Int) = 1 + x % 999 := ⟨(1 + x % 999).toNat, by omega⟩
      have gk := hgl (1 + x % 999) (by omega) (by omega)
      have hmem := hin k (by omega) (by omega)
      rw [hk1] at hmem
      refine cfree_lt p _ cap taken above x w hE rfl hA (by omega) hf (by omega) ns m t more key _ rfl h6 hP hQ hC hx0 hx1 hk (textOf (ns ++ [1 + x % 999])) (fun W q c hEW hI => ?_) (fun W hAW => ?_)
      · exact Format_ok q c _ _ W (by simp) hEW hI gk
      · have := Contains_any p _ cap taken ⟨(textOf (ns ++ [1 + x % 999])).toArray⟩ W rfl (by omega) hAW
        rw [bs_mk, decide_eq_true hmem] at this
        exact this

theorem u16_range {x : Int} (h : (Lit.int .u16 x).wf = true) : 0 ≤ x ∧ x ≤ 65535 := by
  have e1 : IntKind.u16.min = 0 := by decide +kernel
  have e2 : IntKind.u16.max = 65535 := by decide +kernel
  rw [Lit.wf, e1, e2, Bool.and_eq_true, decide_eq_true_eq, decide_eq_true_eq] at h
  exact h


set_option maxRecDepth 100000 in
theorem cfree_lifted (os : Os) (started : os.Started) (H : Type) (enc : TypeId × Value → H) :
    ReturnsInHanded {} Tryd.checked os 7 .any (fun w args => (Rows.codeFreeSpec.pre enc Tryd.prog Tryd.f7 [] false w args ∧ laidMetH Tryd.prog laid7 w) ∧ sizedMet enc Tryd.prog Tryd.f7 (OpenSpec.ofChange Rows.codeFreeSpec) false w args)
      (Rows.codeFreeSpec.post enc Tryd.prog Tryd.f7 false true false false) := by
  refine wrap (s := Rows.codeFreeSpec) started (by kernel_rfl) Tryd.func7
    (ChangeSpec.witness_shaped (enc := enc) (C := Tryd.checked) (os := os) (X := fun w _ => laidMetH Tryd.prog laid7 w) false (World.laidAll Tryd.prog os laid7) #[.slice none 0 0, .string ⟨#[]⟩, .int .u16 0] 8 (World.laidAll_os _ _ _)
      (World.shaped_of_ZipB (by kernel_rfl) (by kernel_rfl)) (by kernel_rfl) (by kernel_rfl) (by kernel_rfl) (laid_met os _)) ?_
  intro W base args ds gs before hval0 hW hE
  have hval : ∀ (j : Nat) t v, Tryd.f7.params[j]? = some t → args[j]? = some v → Value.okWide Tryd.prog W .any base t v := hval0
  have hW' := hW
  obtain ⟨p, q, hA0, hV, rfl, hfz, hnd⟩ := hW
  have hA : DataW.TrodAll enc Tryd.prog W 0 (fun _ => true) true Tryd.f7.params.toList args.toList ds p := hA0
  rw [Tryd.params7] at hA hval
  obtain ⟨v0, v1, v2, d0, d1, d2, p0, p1, p2, rfl, rfl, rfl, h0, h1, h2⟩ := trodAll_three hA
  obtain ⟨rfl, rfl⟩ := trodVars_none hV
  obtain ⟨a0, c0, n0, rfl, g0, z0⟩ := open_ss (hval 0 37 v0 rfl rfl) h0
  obtain ⟨s1, rfl, rfl, rfl, z1⟩ := Go.ChangeMaps.open_string Tryd.underlying9 (hval 1 9 v1 rfl rfl) h1
  obtain ⟨x2, rfl, rfl, rfl, w2⟩ := Go.ChangeShapes.open_int Tryd.underlying38 (hval 2 38 v2 rfl rfl) h2
  refine (cfree_law a0 c0 n0 s1 x2 W hE g0 z0 (u16_range w2).1 (u16_range w2).2).mono fun e W' ⟨he, hb⟩ => ?_
  subst he
  exact ⟨_, rfl, post_true rfl rfl (by kernel_rfl) hW' rfl hb⟩

theorem cfree_said : Rows.CodeFreeSaid :=
  OpenClaim.holds_of_wide 7 Tryd.f7 rfl rfl rfl rfl rfl rfl rfl ⟨rfl, rfl, rfl, rfl, rfl⟩ rfl rfl rfl rfl rfl (by kernel_rfl) Tryd.func7 (by kernel_rfl)
    (of_decide_eq_true (by kernel_rfl)) (by unfold Func.isWrapper; first | (rw [if_pos (by decide +kernel)]; kernel_rfl) | (rw [if_neg (by decide +kernel)]; exact ⟨rfl, rfl⟩))
    (fun os started H enc _ => cfree_lifted os started H enc)

theorem cfree_holds : Rows.CodeFreeCardSaid :=
  Claim7.holds_tied_plain_at .later [] [.data, .data, .data, .data, .sentinel, .sentinel, .pinned] true (true, "5585ac0de1e38fc76c382604bd46716503cfda96d5a3b4437f73ea2738781a5e") true
    cfree_said (fun _ h => by cases h) (by kernel_rfl) (fun _ h => by cases h) codeFree_row_tie rfl ⟨rfl, rfl⟩ (by kernel_rfl) rfl
    (fun f fn hf hfn => by
      obtain rfl : f = 7 := Option.some.inj ((show Tryd.prog.funcNamed "archivum/archivumlaw05.CodeFree" = some 7 by kernel_rfl).symm.trans hf) |>.symm
      obtain rfl : fn = Tryd.f7 := (Option.some.inj (Tryd.func7.symm.trans hfn)).symm
      exact ⟨by kernel_rfl, fun j t ht => by
        rw [Tryd.params7] at ht
        have hm : t ∈ [37, 9, 38] := by simpa using Array.mem_of_getElem? ht
        have hall : ([37, 9, 38].all fun u => !Tryd.prog.wantsStandIn u) = true := by kernel_rfl
        exact (show Tryd.prog.wantsStandIn t = false by simpa using List.all_eq_true.1 hall t hm)⟩)
    (by kernel_rfl)
#print axioms cfree_holds
end Go.Proofs.YtbpoggdinefkeaaDoor
