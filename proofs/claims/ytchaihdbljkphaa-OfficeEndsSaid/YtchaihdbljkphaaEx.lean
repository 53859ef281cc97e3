/-
  The law's example, and what the functions of the document answer for it. No statement of the seat is proved here.
-/
import Derived.Test.YtchaihdbljkphaaRa
namespace Go.Proofs.Ytchaihdbljkphaa
open Go Go.RowKit Go.Maps Go.Joins

/-- The offices of the example. -/
def exO (a b : Nat) : List Off :=
  [⟨1, ⟨#[65]⟩, 0, 100, some ⟨a, 0, none⟩, 2, [2, 3]⟩, ⟨2, ⟨#[66]⟩, 100, 200, some ⟨b, 0, none⟩, 1, [4]⟩, ⟨3, ⟨#[67]⟩, 100, 1048576, none, 0, []⟩, ⟨4, ⟨#[68]⟩, 200, 1048576, none, 0, []⟩]
theorem exO_good (a b : Nat) : GoodO (exO a b) := by
  refine ⟨by show 4 ≤ 32; omega, fun i hi => ?_⟩
  have hi : i < 4 := hi
  match i, hi with
  | 0, _ => rfl
  | 1, _ => rfl
  | 2, _ => rfl
  | 3, _ => rfl
theorem exO_chk (a b : Nat) : OChk (exO a b) (-1) 0 := .inr (.inl ⟨(exO_good a b).1, (exO_good a b).2, rfl, rfl⟩)
theorem i64_of {n : Int} (h0 : -9223372036854775808 ≤ n) (h1 : n ≤ 9223372036854775807) : I64 n := ⟨h0, h1⟩
theorem exO_fit (a b : Nat) : ∀ x ∈ exO a b, FitO x := by
  intro x hx
  unfold exO at hx
  simp only [List.mem_cons, List.not_mem_nil, or_false] at hx
  rcases hx with rfl | rfl | rfl | rfl <;> refine ⟨⟨by dsimp only; omega, by dsimp only; omega⟩, ⟨by dsimp only; omega, by dsimp only; omega⟩, ⟨by dsimp only; omega, by dsimp only; omega⟩, fun n hn => ?_, by simp, by show 1 ≤ _; omega⟩
  · simp only [List.mem_cons, List.not_mem_nil, or_false] at hn
    rcases hn with rfl | rfl <;> exact ⟨by decide, by decide⟩
  · simp only [List.mem_cons, List.not_mem_nil, or_false] at hn
    subst hn
    exact ⟨by decide, by decide⟩
  · cases hn
  · cases hn
theorem exO_chain (a b : Nat) : ChL (exO a b) 150 1 [1, 2] := .inr (.step rfl rfl rfl (.stop rfl (.inl rfl)))
theorem exO_1 (a b : Nat) : heirF (exO a b) 250 1 = some 4 := heirF_is (c := [1, 2, 4]) (.inr (.step rfl rfl rfl (.step rfl rfl rfl (.stop rfl (.inl rfl)))))
theorem exO_2 (a b : Nat) : heirF (exO a b) 250 2 = some 4 := heirF_is (c := [2, 4]) (.inr (.step rfl rfl rfl (.stop rfl (.inl rfl))))
theorem exO_3 (a b : Nat) : heirF (exO a b) 250 3 = some 3 := heirF_is (c := [3]) (.inr (.stop rfl (.inl rfl)))
theorem exO_4 (a b : Nat) : heirF (exO a b) 250 4 = some 4 := heirF_is (c := [4]) (.inr (.stop rfl (.inl rfl)))
theorem exO_ids (a b : Nat) {z : Int} {x : Off} (h : fnd (exO a b) z = some x) : z = 1 ∨ z = 2 ∨ z = 3 ∨ z = 4 := by
  obtain ⟨hx, rfl⟩ := fnd_some h
  unfold exO at hx
  simp only [List.mem_cons, List.not_mem_nil, or_false] at hx
  rcases hx with rfl | rfl | rfl | rfl
  · exact .inl rfl
  · exact .inr (.inl rfl)
  · exact .inr (.inr (.inl rfl))
  · exact .inr (.inr (.inr rfl))
theorem exO_reach (a b : Nat) : reachL (exO a b) 1 = [1, 2, 3, 4] := by
  refine (reachL_is (exO_good a b) 1 (by decide) fun z => ⟨fun h => ?_, fun h => ?_⟩).symm
  · have r2 : Rc (exO a b) 1 2 := .next (x := ⟨1, ⟨#[65]⟩, 0, 100, some ⟨a, 0, none⟩, 2, [2, 3]⟩) rfl (List.mem_cons_self) (.here (x := ⟨2, ⟨#[66]⟩, 100, 200, some ⟨b, 0, none⟩, 1, [4]⟩) rfl)
    simp only [List.mem_cons, List.not_mem_nil, or_false] at h
    rcases h with rfl | rfl | rfl | rfl
    · exact .here (x := ⟨1, ⟨#[65]⟩, 0, 100, some ⟨a, 0, none⟩, 2, [2, 3]⟩) rfl
    · exact r2
    · exact .next (x := ⟨1, ⟨#[65]⟩, 0, 100, some ⟨a, 0, none⟩, 2, [2, 3]⟩) rfl (List.mem_cons_of_mem _ List.mem_cons_self) (.here (x := ⟨3, ⟨#[67]⟩, 100, 1048576, none, 0, []⟩) rfl)
    · exact r2.trans (.next (x := ⟨2, ⟨#[66]⟩, 100, 200, some ⟨b, 0, none⟩, 1, [4]⟩) rfl List.mem_cons_self (.here (x := ⟨4, ⟨#[68]⟩, 200, 1048576, none, 0, []⟩) rfl))
  · obtain ⟨x, hx⟩ := h.tgt
    simp only [List.mem_cons, List.not_mem_nil, or_false]
    exact exO_ids a b hx
theorem exO_dut (a b : Nat) : dutL (exO a b) 4 250 = [1, 2, 4] := by
  refine (dutL_is (exO_good a b) 4 250 (by decide) fun z => ⟨fun h => ?_, fun h => ?_⟩).symm
  · simp only [List.mem_cons, List.not_mem_nil, or_false] at h
    rcases h with rfl | rfl | rfl
    · exact ⟨⟨_, rfl⟩, exO_1 a b⟩
    · exact ⟨⟨_, rfl⟩, exO_2 a b⟩
    · exact ⟨⟨_, rfl⟩, exO_4 a b⟩
  · obtain ⟨⟨x, hx⟩, h2⟩ := h
    simp only [List.mem_cons, List.not_mem_nil, or_false]
    rcases exO_ids a b hx with rfl | rfl | rfl | rfl
    · exact .inl rfl
    · exact .inr (.inl rfl)
    · rw [exO_3] at h2; cases h2
    · exact .inr (.inr rfl)

set_option maxRecDepth 100000 in
set_option maxHeartbeats 8000000 in
theorem example_any (w : World) : Calls Try.prog 28 #[] w fun e w' => e = .returned (.slice (some ⟨w.heap.size + 1 + 1, 0, none⟩) 4 4) ∧ OffsAt w' (some ⟨w.heap.size + 1 + 1, 0, none⟩) (exO w.heap.size (w.heap.size + 1)) ∧ Below w.heap.size w w' := by
  go_enter Try.func28, Try.ntmps28
  go_wp2_with fail
  go_ret
  obtain ⟨wa, hwa⟩ : ∃ wa, wa = w.alloc (.cells #[.int .i64 2, .int .i64 3] 3) := ⟨_, rfl⟩
  rw [← hwa]
  obtain ⟨wb, hwb⟩ : ∃ wb, wb = wa.alloc (.cells #[.int .i64 4] 3) := ⟨_, rfl⟩
  rw [← hwb]
  obtain ⟨L, hL⟩ : ∃ L : Array Value, L = #[.int .i64 1, .string ⟨#[65]⟩, .int .i64 0, .int .i64 100, .slice (some ⟨w.heap.size, 0, none⟩) 2 2, .int .i64 2, .string ⟨#[66]⟩, .int .i64 100, .int .i64 200, .slice (some ⟨w.heap.size + 1, 0, none⟩) 1 1,
    .int .i64 3, .string ⟨#[67]⟩, .int .i64 100, .int .i64 1048576, .slice none 0 0, .int .i64 4, .string ⟨#[68]⟩, .int .i64 200, .int .i64 1048576, .slice none 0 0] := ⟨_, rfl⟩
  rw [← hL]
  obtain ⟨wc, hwc⟩ : ∃ wc, wc = wb.alloc (.cells L 43) := ⟨_, rfl⟩
  rw [← hwc]
  have sa : wa.heap.size = w.heap.size + 1 := by rw [hwa]; simp
  have sb : wb.heap.size = w.heap.size + 2 := by rw [hwb]; simp [sa]
  have Ba : Below w.heap.size w wa := by rw [hwa]; exact (Below.refl _ _).alloc (Nat.le_refl _) _
  have Bb : Below wa.heap.size wa wb := by rw [hwb]; exact (Below.refl _ _).alloc (Nat.le_refl _) _
  have Bc : Below wb.heap.size wb wc := by rw [hwc]; exact (Below.refl _ _).alloc (Nat.le_refl _) _
  have Bac : Below wa.heap.size wa wc := Bb.trans (Bc.mono (by omega))
  have I1 : IntsAt wc (some ⟨w.heap.size, 0, none⟩) [2, 3] := by
    refine .inr ⟨_, _, rfl, fun i x hi => ?_⟩
    refine (Bac.cell (p := ⟨w.heap.size, 0 + i, none⟩) (by show w.heap.size < _; omega)).trans ?_
    rw [hwa]
    match i, hi with
    | 0, hi => obtain rfl := Option.some.inj hi; exact World.cell?_alloc_new w _ 3 0
    | 1, hi => obtain rfl := Option.some.inj hi; exact World.cell?_alloc_new w _ 3 1
  have I2 : IntsAt wc (some ⟨w.heap.size + 1, 0, none⟩) [4] := by
    refine .inr ⟨_, _, rfl, fun i x hi => ?_⟩
    refine (Bc.cell (p := ⟨w.heap.size + 1, 0 + i, none⟩) (by show w.heap.size + 1 < _; omega)).trans ?_
    rw [hwb, ← sa]
    match i, hi with
    | 0, hi => obtain rfl := Option.some.inj hi; exact World.cell?_alloc_new wa _ 3 0
  have C : ∀ i v, L[i]? = some v → wc.cell? ⟨w.heap.size + 1 + 1, i, none⟩ = some v := fun i v h => by
    rw [hwc, show w.heap.size + 1 + 1 = wb.heap.size by omega, World.cell?_alloc_new wb _ 43 i]
    exact h
  rw [hL] at C
  refine ⟨rfl, .inr ⟨_, _, rfl, fun i x hi => ?_⟩, (Ba.trans (Bac.mono (by omega)))⟩
  match i, hi with
  | 0, hi => obtain rfl := Option.some.inj hi; exact ⟨⟨C 0 _ rfl, C 1 _ rfl, C 2 _ rfl, C 3 _ rfl, C 4 _ rfl⟩, I1⟩
  | 1, hi => obtain rfl := Option.some.inj hi; exact ⟨⟨C 5 _ rfl, C 6 _ rfl, C 7 _ rfl, C 8 _ rfl, C 9 _ rfl⟩, I2⟩
  | 2, hi => obtain rfl := Option.some.inj hi; exact ⟨⟨C 10 _ rfl, C 11 _ rfl, C 12 _ rfl, C 13 _ rfl, C 14 _ rfl⟩, .inl rfl⟩
  | 3, hi => obtain rfl := Option.some.inj hi; exact ⟨⟨C 15 _ rfl, C 16 _ rfl, C 17 _ rfl, C 18 _ rfl, C 19 _ rfl⟩, .inl rfl⟩

end Go.Proofs.Ytchaihdbljkphaa
