/-
  Natural, for any two strings. No statement of the seat is proved here.
-/
import Derived.Test.YtbpoggdinefkeaaGreatDoorNc
import Derived.Handy
namespace Go.Proofs.YtbpoggdinefkeaaGreatDoor
open Go Go.RowKit Go.Shelf
attribute [local go_sem] Oper.semAt_some

/-- Between two rounds: all pairs so far are alike. -/
structure NI (n₀ : Nat) (w : World) (pre : List Pr) (W : World) : Prop where
  z : ∀ x ∈ pre, cmpP (bs x.1) (bs x.2) = 0
  b : Boxed W n₀ 3 (.int .i64 0)
  bel : Below n₀ w W
  sz : n₀ + 3 ≤ W.heap.size
/-- A round has returned. -/
structure NX (n₀ : Nat) (w : World) (c : Code) (pre : List Pr) (W : World) : Prop where
  c : c = .ret
  z : ∃ p x, pre = p ++ [x] ∧ (∀ y ∈ p, cmpP (bs y.1) (bs y.2) = 0) ∧ cmpP (bs x.1) (bs x.2) ≠ 0 ∧ Boxed W n₀ 3 (.int .i64 (cmpP (bs x.1) (bs x.2)))
  bel : Below n₀ w W
  sz : n₀ + 3 ≤ W.heap.size

theorem NI.own (n₀ B : Nat) (w : World) (hB : n₀ + 3 ≤ B) : OwnFrom B (NI n₀ w) := by
  intro s W W' row h hg hr
  exact ⟨h.z, h.b.kept hg (by intro e; have := (hr _ e.symm).1; omega), h.bel.grown hg (by have := h.sz; omega) (fun k e => by have := (hr k e).1; omega), Nat.le_trans h.sz hg.size⟩
theorem NX.own (n₀ B : Nat) (w : World) (c : Code) (hB : n₀ + 3 ≤ B) : OwnFrom B (NX n₀ w c) := by
  intro s W W' row h hg hr
  obtain ⟨hc, ⟨p, x, e, h1, h2, h3⟩, hb, hz⟩ := h
  exact ⟨hc, ⟨p, x, e, h1, h2, h3.kept hg (by intro e; have := (hr _ e.symm).1; omega)⟩, hb.grown hg (by omega) (fun k e => by have := (hr k e).1; omega), Nat.le_trans hz hg.size⟩

theorem nat_eq (a b : List UInt8) : nat a b = if lexC cmpP (partsL a) (partsL b) = 0 then Lib.compareBytes a b else lexC cmpP (partsL a) (partsL b) := rfl
theorem nat_done {a b : List UInt8} {xs : List Pr} (h : AllP a b xs) (hz : ∀ x ∈ xs, cmpP (bs x.1) (bs x.2) = 0) : nat a b = Lib.compareBytes a b := by
  have := After.lex h hz
  rw [nat_eq, this, partsL_nil, if_pos (by simp [lexC])]
theorem nat_stop {a b : List UInt8} {xs : List Pr} (h : SomeP a b xs) {p : List Pr} {x : Pr} (e : xs = p ++ [x]) (hz : ∀ y ∈ p, cmpP (bs y.1) (bs y.2) = 0) (hx : cmpP (bs x.1) (bs x.2) ≠ 0) : nat a b = cmpP (bs x.1) (bs x.2) := by
  obtain ⟨p', x', ra, rb, e', h1, h2, h3, h4⟩ := h
  obtain ⟨rfl, e2⟩ := List.append_inj' (e.symm.trans e') rfl
  cases e2
  have h5 := lex_step ra rb h2
  rw [← h3, ← h4, if_neg hx] at h5
  rw [nat_eq, After.lex h1 hz, h5, if_neg hx]

set_option maxRecDepth 100000 in
set_option maxHeartbeats 4000000 in
theorem Natural_any (a b : ByteArray) (w : World) (ha : a.size ≤ 1000000000000) (hb : b.size ≤ 1000000000000) :
    Calls Tryz.prog 16 #[.string a, .string b] w fun e w' => e = .returned (.int .i64 (nat (bs a) (bs b))) ∧ Below w.heap.size w w' := by
  refine (callsIn_wide (n := 9)).1 ?_
  refine callsIn_of_wp_marks Tryz.func16 rfl trivial ?_ rfl
  simp only [Tryz.ntmps16, List.size_toArray, List.length_cons, List.length_nil, Nat.reduceAdd, Nat.reduceSub, Array.replicate_succ, Array.replicate_zero, List.push_toArray, List.append_toArray, List.nil_append, List.cons_append]
  gi_wp2_with fail
  refine ⟨trivial, (callsIn_wide.2 (partsIter_any _ _ _)).mono ?_⟩
  rintro e w' ⟨rfl, rfl⟩
  gi_wp2_with fail
  rw [show w.heap.size + 1 + 1 = w.heap.size + 2 from rfl]
  have k0 := Boxed.new w 3 (.int .i64 0)
  have k1 := Boxed.new (w.alloc (.cells #[.int .i64 0] 3)) 9 (.string a)
  have k2 := Boxed.new ((w.alloc (.cells #[.int .i64 0] 3)).alloc (.cells #[.string a] 9)) 9 (.string b)
  simp only [World.size_alloc] at k1 k2
  have hI0 : NI w.heap.size w [] (((w.alloc (.cells #[.int .i64 0] 3)).alloc (.cells #[.string a] 9)).alloc (.cells #[.string b] 9)) :=
    ⟨(fun _ h => by cases h), (k0.alloc _).alloc _, by go_grown, by simp⟩
  have k1' := k1.alloc (.cells #[.string b] 9)
  obtain ⟨W0, hW0⟩ : ∃ W0, W0 = (((w.alloc (.cells #[.int .i64 0] 3)).alloc (.cells #[.string a] 9)).alloc (.cells #[.string b] 9)) := ⟨_, rfl⟩
  rw [← hW0] at hI0 k1' k2 ⊢
  have zW : W0.heap.size = w.heap.size + 3 := by rw [hW0]; simp
  clear hW0 k0 k1
  refine wpIn_rangeFunc_ownG (F := Fence.wide) rfl (by omega) (gf := 49) (lb := #[.pointer (some ⟨w.heap.size + 1, 0, none⟩), .pointer (some ⟨w.heap.size + 2, 0, none⟩)]) rfl trivial (enters_of Tryz.func49 (by kernel_rfl) rfl)
    (pairs_stops (9 - 1) (by omega) (w.heap.size + 1) (w.heap.size + 2) a b ha hb W0 k1' k2) (fun _ _ => trivial) (fun _ _ _ _ _ _ _ _ => trivial) (Below.refl _ _) (fun _ => rfl)
    (NI w.heap.size w) (NX w.heap.size w) (NI.own _ _ _ (by omega)) (fun c => NX.own _ _ _ c (by omega)) hI0 ?a1 ?assign ?body ?done ?stop
  case assign =>
    intro l x W K hK
    gi_wp2
    exact hK
  case body =>
    intro l pre x W h _
    have PP := Lib.hid (parts_any x.1 x.2)
    have hz := h.sz
    gi_wp2_with fail
    refine ⟨trivial, (CallsIn.inRound l (callsIn_wide.2 (PP.out _))).mono ?_⟩
    rintro e W2 ⟨rfl, hbl⟩
    have BX := Lib.hid (boxed_next h.b hbl)
    have BL := Lib.hid (h.bel.trans (hbl.mono (by omega)))
    have KK := Lib.hid (keeps_of_below hbl)
    have Z := Lib.hid h.z
    have hz2 := hbl.size
    clear h hbl
    obtain ⟨A, hA⟩ : ∃ A, A = cmpP (bs x.1) (bs x.2) := ⟨_, rfl⟩
    rw [← hA]
    have HA := Lib.hid hA
    clear hA
    by_cases h0 : A = 0
    · have a0 : (A == 0) = true := by rw [beq_iff_eq]; exact h0
      have H0 := Lib.hid h0
      clear h0
      gi_wp2
      refine ⟨KK.out.from _, trivial, ⟨?_, BX.out, BL.out, by omega⟩⟩
      intro y hy
      rcases List.mem_append.1 hy with hy | hy
      · exact Z.out y hy
      · rw [List.mem_singleton.1 hy, ← HA.out]; exact H0.out
    · have a0 : (A == 0) = false := by rw [beq_eq_false_iff_ne]; exact h0
      have a1 : (A != 0) = true := by rw [bne_iff_ne]; exact h0
      have H0 := Lib.hid h0
      have c1 := BX.out.cell
      have f1 := BX.out.frozen
      clear h0
      gi_wp2
      refine ⟨(KK.out.trans (KeepsOthers.setCell _ _ _)).from _, rfl, ⟨pre, x, rfl, Z.out, by rw [← HA.out]; exact H0.out, by rw [← HA.out]; exact BX.out.set _⟩, BL.out.setCell (p := ⟨w.heap.size, 0, none⟩) (Nat.le_refl _) _, by have := size_set W2 w.heap.size (.int .i64 A); omega⟩
  case done =>
    intro D ys W hD hys h hK
    have CC := Lib.hid (Tryz.strings_Compare a b)
    have NN := Lib.hid (nat_done hys h.z)
    have c1 := h.b.cell
    have f1 := h.b.frozen
    have BX := Lib.hid h.b
    have BL := Lib.hid h.bel
    have DD := Lib.hid hK
    clear h hys hK
    gi_wp2_with fail
    refine ⟨trivial, (callsIn_wide.2 (CC.out _)).mono ?_⟩
    rintro e W2 ⟨rfl, rfl⟩
    rw [show Lib.compareBytes a.data.toList b.data.toList = nat (bs a) (bs b) from NN.out.symm]
    gi_wp2
    have D2 := keep_set _ w.heap.size (.int .i64 (nat (bs a) (bs b))) DD.out rfl
    refine ⟨by simp, .inl ⟨_, _, rfl, run_takeDeferred D2, ?_⟩⟩
    have q2 := (boxed_put (.deferred none) (BX.out.set (.int .i64 (nat (bs a) (bs b)))) D2 rfl).cell
    refine ⟨.int .i64 (nat (bs a) (bs b)), by simp [results, Tryz.f16, go_sem, q2], rfl, ?_⟩
    exact (BL.out.setCell (p := ⟨w.heap.size, 0, none⟩) (Nat.le_refl _) _).grown (grownBy_putObj' _ _ _) (Nat.le_trans BL.out.size (size_set _ _ _)) (fun k e => by cases e; omega)
  case stop =>
    intro D c pre W hD hp h hK
    obtain ⟨rfl, ⟨p, x, e, h1, h2, h3⟩, hbl, hz⟩ := h
    have NN := Lib.hid (nat_stop hp e h1 h2)
    rw [← nat_stop hp e h1 h2] at h3
    have BX := Lib.hid h3
    have BL := Lib.hid hbl
    have DD := Lib.hid hK
    clear h1 h2 h3 hbl hK hp e
    gi_wp2
    refine ⟨by simp, .inl ⟨_, _, rfl, run_takeDeferred DD.out, ?_⟩⟩
    have q2 := (boxed_put (.deferred none) BX.out DD.out rfl).cell
    refine ⟨.int .i64 (nat (bs a) (bs b)), by simp [results, Tryz.f16, go_sem, q2], rfl, ?_⟩
    exact BL.out.grown (grownBy_putObj' _ _ _) BL.out.size (fun k e => by cases e; omega)

end Go.Proofs.YtbpoggdinefkeaaGreatDoor
