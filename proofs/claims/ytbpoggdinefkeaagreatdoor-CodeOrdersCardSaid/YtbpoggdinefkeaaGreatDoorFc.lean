/-
  The first code below another one that is not used. No statement of the seat is proved here.
-/
import Derived.Test.YtbpoggdinefkeaaGreatDoorMp
import Derived.ArgAppend
namespace Go.Proofs.YtbpoggdinefkeaaGreatDoor
open Go Go.RowKit Go.Shelf Go.Maps

theorem row_base {w : World} {base base' : Nat} {e : TypeId} {size : Nat} {v : Value} {k : Nat} {xs : List Value} (h : w.ownsRow base e size v k xs) (hb : base' ≤ base) : w.ownsRow base' e size v k xs := by
  obtain ⟨h1, h2⟩ := h
  refine ⟨h1, h2.imp id ?_⟩
  rintro ⟨g, c, cur, r1, r2, r⟩
  exact ⟨g, c, cur, r1, by omega, r⟩
theorem row_next {w w' : World} {base : Nat} {e : TypeId} {size : Nat} {v : Value} {k : Nat} {xs : List Value} (h : w.ownsRow base e size v k xs) (hb : Below w.heap.size w w') : w'.ownsRow base e size v k xs :=
  h.kept (grown_of_below hb) (by cases hh : v.ownBlock <;> simp)
theorem row_shorter {w : World} {base : Nat} {g k cap : Nat} {ns : List Int} {y : Value} (hl : ns.length = k) (h : w.ownsRow base 3 1 (.slice (some ⟨g, 0, none⟩) (k + 1) cap) (k + 1) (ints ns ++ [y])) : w.ownsRow base 3 1 (.slice (some ⟨g, 0, none⟩) k cap) k (ints ns) := by
  rcases h.2 with ⟨e, _⟩ | ⟨g', cap', cur, e, h1, h2, h3, h4, h5, h6⟩
  · simp at e
  · obtain ⟨rfl, rfl⟩ : g = g' ∧ cap = cap' := by simpa using e
    refine ⟨by simp [ints, hl], .inr ⟨g, cap, cur, rfl, h1, h2, by omega, h4, h5, ?_⟩⟩
    have := congrArg (List.take k) h6
    rw [List.take_take] at this
    simp only [Nat.mul_one] at this ⊢
    rw [show min k (k + 1) = k by omega] at this
    rw [this, List.take_append_of_le_length (by simp [ints, hl]), List.take_of_length_le (by simp [ints, hl])]
theorem set_ne_row {w : World} {b nn : Nat} {l : List (List UInt8)} (h : SetB w b nn l) {base : Nat} {e : TypeId} {size : Nat} {v : Value} {k : Nat} {xs : List Value} (r : w.ownsRow base e size v k xs) : some b ≠ v.ownBlock := by
  rcases r.2 with ⟨rfl, _⟩ | ⟨g, cap, cur, rfl, _, hg, _⟩
  · simp [Value.ownBlock]
  · intro e'
    obtain rfl : b = g := by simpa [Value.ownBlock] using e'
    obtain ⟨D, ⟨es, clock, hm, _⟩, _⟩ := h
    rw [hm] at hg; cases hg

theorem ints_snoc (ns : List Int) (n : Int) : ints ns ++ [.int .i64 n] = ints (ns ++ [n]) := by simp [ints]

theorem row_none {w : World} {base : Nat} {p : Option Addr} {k cap : Nat} {xs : List Value} (h : w.ownsRow base 3 1 (.slice p k cap) k xs) (e : p = none) : k = 0 ∧ cap = 0 := by
  subst e
  rcases h.2 with ⟨e, h0⟩ | ⟨g, c', cur, e, _⟩
  · exact ⟨h0, by simp at e; exact e.2⟩
  · simp at e
theorem row_cells {w : World} {base : Nat} {p : Option Addr} {k cap : Nat} {xs : List Value} {b : Addr} (h : w.ownsRow base 3 1 (.slice p k cap) k xs) (e : p = some b) : ∀ j u, xs[j]? = some u → w.cell? (b.add j) = some u := by
  subst e
  have h0 := h
  rcases h.2 with ⟨e, _⟩ | ⟨g, c', cur, e, _⟩
  · simp at e
  · obtain ⟨rfl, rfl⟩ : b = ⟨g, 0, none⟩ ∧ cap = c' := by simpa using e
    exact h0.cells rfl

theorem child_full (p : Option Addr) (c b : Nat) (w : World) : Calls Tryz.prog 29 #[.slice p 6 c, .map (some b)] w fun e w' => e = .returned (.tuple #[.string ⟨#[]⟩, .int .i64 12]) ∧ w = w' := by
  go_enter Tryz.func29, Tryz.ntmps29
  go_wp2
  go_ret2
  exact ⟨rfl, rfl⟩

set_option maxRecDepth 100000 in
set_option maxHeartbeats 4000000 in
theorem child_loop (p : Option Addr) (k cap b nn m : Nat) (ns : List Int) (taken : List (List UInt8)) (R : Value) (w0 w : World) (hE : Env w0) (hb0 : Below w0.heap.size w0 w) (hl : ns.length = k) (hk : k < 6) (hg : GoodN ns)
    (hrow : w.ownsRow w0.heap.size 3 1 (.slice p k cap) k (ints ns)) (hset : SetB w b nn taken) (hm1 : 1 ≤ m) (hm : m ≤ 1000)
    (hin : ∀ n : Nat, 1 ≤ n → n < m → textOf (ns ++ [(n : Int)]) ∈ taken)
    (hR : (m = 1000 ∧ R = .tuple #[.string ⟨#[]⟩, .int .i64 12]) ∨ (m < 1000 ∧ textOf (ns ++ [(m : Int)]) ∉ taken ∧ R = .tuple #[.string ⟨(textOf (ns ++ [(m : Int)])).toArray⟩, .int .i64 0])) :
    Calls Tryz.prog 29 #[.slice p k cap, .map (some b)] w fun e w' => e = .returned R ∧ Below w0.heap.size w0 w' := by
  obtain ⟨i0, hi, hz0, hz1, hz2⟩ := info_parts info3
  have d6 : ((k : Int) == 6) = false := by rw [beq_eq_false_iff_ne]; omega
  have E0 := Lib.hid hE; have B0 := Lib.hid hb0; have HL := Lib.hid hl; have HG := Lib.hid hg; have RW0 := Lib.hid hrow; have ST0 := Lib.hid hset; have HI := Lib.hid hin; have HR := Lib.hid hR
  clear hE hb0 hl hg hrow hset hin hR
  go_enter Tryz.func29, Tryz.ntmps29
  go_wp2
  go_loopw [6] (fun i wr => ∃ n : Nat, 1 ≤ n ∧ n ≤ m ∧ i = .int .i64 n ∧ wr.ownsRow w0.heap.size 3 1 (.slice p k cap) k (ints ns) ∧ SetB wr b nn taken ∧ Below w0.heap.size w0 wr) (fun i _ => 1000 - (intOf i).toNat)
  case atStart => exact ⟨1, by omega, hm1, rfl, RW0.out, ST0.out, B0.out⟩
  case round =>
    obtain ⟨n, hn1, hnm, rfl, hrow, hset, hb⟩ := hrel
    have RW := Lib.hid hrow; have ST := Lib.hid hset; have BB := Lib.hid hb
    clear hrow hset hb
    by_cases hlt : n < 1000
    · have d7 : decide ((n : Int) ≤ 999) = true := by rw [decide_eq_true_iff]; omega
      have GL : Hid (GoodL (ns ++ [(n : Int)])) := by
        refine ⟨by simp, by simp; have := HL.out; omega, ?_⟩
        intro x hx
        rcases List.mem_append.1 hx with hx | hx
        · exact HG.out x hx
        · rw [List.mem_singleton.1 hx]; omega
      have hsz := BB.out.size
      by_cases hcap : k + 1 ≤ cap
      · obtain ⟨g, rfl⟩ : ∃ g, p = some ⟨g, 0, none⟩ := by
          rcases RW.out.2 with ⟨e, _⟩ | ⟨g, c', cur, e, _⟩
          · have : cap = 0 := by simp at e; exact e.2.2
            omega
          · exact ⟨g, by simp at e; exact e.1⟩
        go_wp2_with (at_builtin; refine wpList_append_fits _ rfl _ _ 40 rfl w0.heap.size 3 i0 1 Tryz.underlying40 hi hz1 g k cap (ints ns) rfl (RW.out.alloc _) ⟨wr.heap.size, 0, none⟩ 1 1 [.int .i64 n] rfl rfl (cell_one_new _ _ _) (by simp [Value.oneCell']) hcap ?_; intro w1 hown1 hgrow1)
        have orow := row_shorter HL.out hown1
        have nrow := hown1
        rw [ints_snoc] at nrow
        have nset := (ST.out.kept (World.grownBy_alloc wr (.cells #[.int .i64 n] 3) none) (by simp)).kept hgrow1 (by have := set_ne_row ST.out RW.out; simpa [Value.ownBlock] using this)
        have nbel := (BB.out.alloc hsz (.cells #[.int .i64 n] 3)).grown hgrow1 (by simp; omega) (by
          intro j e
          cases e
          exact (RW.out.lt g rfl).1)
        clear hown1 hgrow1
        have RN := Lib.hid nrow; have RW2 := Lib.hid orow; have ST2 := Lib.hid nset; have BB2 := Lib.hid nbel
        clear nrow orow nset nbel
        have FO := Lib.hid (Format_ok (some ⟨g, 0, none⟩) cap (k + 1) (ns ++ [(n : Int)]) w1 (by simp [HL.out]) (E0.out.below BB2.out) (intsAt_of_row (by rw [show (ns ++ [(n : Int)]).length = k + 1 by simp [HL.out]]; exact RN.out)) GL.out)
        obtain ⟨t, ht⟩ : ∃ t, t = textOf (ns ++ [(n : Int)]) := ⟨_, rfl⟩
        rw [← ht] at FO
        have HT := Lib.hid ht
        clear ht
        refine FO.out.mono ?_
        rintro e w2 ⟨rfl, hb⟩
        have RW3 := Lib.hid (row_next RW2.out hb)
        have ST3 := Lib.hid (ST2.out.next hb)
        have BB3 := Lib.hid (BB2.out.trans (hb.mono BB2.out.size))
        clear hb
        have tl24 : t.length ≤ 24 := by have := (is_textOf GL.out).len; rw [HT.out]; exact this
        have look := ST3.out.look ⟨t.toArray⟩ (by unfold maxLen; show t.toArray.size ≤ _; simp; omega)
        have eb : bs ⟨t.toArray⟩ = t := by simp [bs]
        rw [eb] at look
        by_cases htk : t ∈ taken
        · rw [decide_eq_true htk] at look
          have nm : n + 1 ≤ m := by
            rcases HR.out with ⟨h1, _⟩ | ⟨h1, h2, _⟩
            · omega
            · rcases Nat.lt_or_ge n m with h | h
              · exact h
              · obtain rfl : n = m := by omega
                rw [← HT.out] at h2; exact absurd htk h2
          have NM := Lib.hid nm
          clear htk eb tl24 nm
          go_wp2
          go_roundw
          case rel => exact ⟨n + 1, by omega, NM.out, by go_num, RW3.out, ST3.out, BB3.out⟩
          case measure => simp [intOf]; omega
        · rw [decide_eq_false htk] at look
          have qr : R = .tuple #[.string ⟨t.toArray⟩, .int .i64 0] := by
            rcases HR.out with ⟨h1, _⟩ | ⟨h1, h2, h3⟩
            · have := HI.out n hn1 (by omega)
              rw [← HT.out] at this; exact absurd this htk
            · rcases Nat.lt_or_ge n m with h | h
              · have := HI.out n hn1 h
                rw [← HT.out] at this; exact absurd this htk
              · obtain rfl : n = m := by omega
                rw [h3, HT.out]
          have QR := Lib.hid qr
          clear htk eb tl24 qr
          go_wp2
          go_ret2
          rw [QR.out]
          exact ⟨rfl, BB3.out⟩
      · go_wp2_with (at_builtin; refine wpList_append_grows _ rfl _ _ 40 rfl 3 i0 (.int .i64 0) 1 8 Tryz.underlying40 hi hz0 hz1 hz2 rfl (by decide) p k cap (ints ns) rfl (fun e => row_none RW.out e) (by simp [ints, HL.out]) (fun b e => row_cells (RW.out.alloc _) e) ⟨wr.heap.size, 0, none⟩ 1 1 [.int .i64 n] rfl rfl (cell_one_new _ _ _) (by simp [Value.oneCell']) (by omega) (by unfold maxLen; omega) (by omega) ?_; intro v1 w1 hown1 hgrow1; obtain ⟨p1, c1, rfl⟩ := row_slice hown1)
        have orow := (RW.out.alloc (.cells #[.int .i64 n] 3)).kept hgrow1 (by cases hh : (Value.slice p k cap).ownBlock <;> simp)
        have nrow := row_base (base' := w0.heap.size) hown1 (by simp; omega)
        rw [ints_snoc] at nrow
        have nset := (ST.out.kept (World.grownBy_alloc wr (.cells #[.int .i64 n] 3) none) (by simp)).kept hgrow1 (by simp)
        have nbel := (BB.out.alloc hsz (.cells #[.int .i64 n] 3)).grown hgrow1 (by simp; omega) (by intro j e; cases e)
        clear hown1 hgrow1
        have RN := Lib.hid nrow; have RW2 := Lib.hid orow; have ST2 := Lib.hid nset; have BB2 := Lib.hid nbel
        clear nrow orow nset nbel
        have FO := Lib.hid (Format_ok p1 c1 (k + 1) (ns ++ [(n : Int)]) w1 (by simp [HL.out]) (E0.out.below BB2.out) (intsAt_of_row (by rw [show (ns ++ [(n : Int)]).length = k + 1 by simp [HL.out]]; exact RN.out)) GL.out)
        obtain ⟨t, ht⟩ : ∃ t, t = textOf (ns ++ [(n : Int)]) := ⟨_, rfl⟩
        rw [← ht] at FO
        have HT := Lib.hid ht
        clear ht
        refine FO.out.mono ?_
        rintro e w2 ⟨rfl, hb⟩
        have RW3 := Lib.hid (row_next RW2.out hb)
        have ST3 := Lib.hid (ST2.out.next hb)
        have BB3 := Lib.hid (BB2.out.trans (hb.mono BB2.out.size))
        clear hb
        have tl24 : t.length ≤ 24 := by have := (is_textOf GL.out).len; rw [HT.out]; exact this
        have look := ST3.out.look ⟨t.toArray⟩ (by unfold maxLen; show t.toArray.size ≤ _; simp; omega)
        have eb : bs ⟨t.toArray⟩ = t := by simp [bs]
        rw [eb] at look
        by_cases htk : t ∈ taken
        · rw [decide_eq_true htk] at look
          have nm : n + 1 ≤ m := by
            rcases HR.out with ⟨h1, _⟩ | ⟨h1, h2, _⟩
            · omega
            · rcases Nat.lt_or_ge n m with h | h
              · exact h
              · obtain rfl : n = m := by omega
                rw [← HT.out] at h2; exact absurd htk h2
          have NM := Lib.hid nm
          clear htk eb tl24 nm
          go_wp2
          go_roundw
          case rel => exact ⟨n + 1, by omega, NM.out, by go_num, RW3.out, ST3.out, BB3.out⟩
          case measure => simp [intOf]; omega
        · rw [decide_eq_false htk] at look
          have qr : R = .tuple #[.string ⟨t.toArray⟩, .int .i64 0] := by
            rcases HR.out with ⟨h1, _⟩ | ⟨h1, h2, h3⟩
            · have := HI.out n hn1 (by omega)
              rw [← HT.out] at this; exact absurd this htk
            · rcases Nat.lt_or_ge n m with h | h
              · have := HI.out n hn1 h
                rw [← HT.out] at this; exact absurd this htk
              · obtain rfl : n = m := by omega
                rw [h3, HT.out]
          have QR := Lib.hid qr
          clear htk eb tl24 qr
          go_wp2
          go_ret2
          rw [QR.out]
          exact ⟨rfl, BB3.out⟩
    · obtain rfl : n = 1000 := by omega
      have QR : Hid (R = .tuple #[.string ⟨#[]⟩, .int .i64 12]) := by
        rcases HR.out with ⟨_, h1⟩ | ⟨h1, _⟩
        · exact h1
        · omega
      go_wp2
      go_ret2
      rw [QR.out]
      exact ⟨rfl, BB.out⟩

end Go.Proofs.YtbpoggdinefkeaaGreatDoor
