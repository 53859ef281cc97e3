/-
  The example that every law of the file layer checks first. No statement of the seat is proved here.
-/
import Derived.Test.YtbjbioiggjhknaaGreatDoorVn
namespace Go.Proofs.YtbjbioiggjhknaaGreatDoor
open Go Go.RowKit

/-- The notes of the chapter's file. -/
def exN : List Nt := [⟨⟨#[97, 117, 100, 105, 116, 101, 100]⟩, 20, 25, 26⟩, ⟨⟨#[97, 117, 100, 105, 116, 101, 100]⟩, 22, 22, 40⟩]
/-- The chapter's file, with its notes in a block. -/
def exF (b : Nat) : Fil := { id := 1, of := 1, op := 5, cl := 30, c := ⟨#[49]⟩, t := ⟨#[84]⟩, pt := 0, np := some ⟨b, 0, none⟩, nc := 2, ns := exN }
def exC : List Pr := [⟨⟨#[49]⟩, ⟨#[84]⟩⟩]
def exP (b : Nat) : Pln := { v := 1, f := 0, u := 50, cp := some ⟨b, 0, none⟩, cc := 1, cs := exC, mp := none, mc := 0, ms := [] }

set_option maxHeartbeats 2000000 in
theorem exf_any (w : World) : Calls Tryz.prog 39 #[] w fun e w' => ∃ b, e = .returned (exF b).val ∧ NtsAt w' (some ⟨b, 0, none⟩) exN ∧ Below w.heap.size w w' := by
  go_enter Tryz.func39, Tryz.ntmps39
  go_wp2_with fail
  refine bodyPost_ret (by simp [results, Tryz.results39, go_sem]; rfl) rfl ⟨w.heap.size + 1, rfl, .inr ⟨w.heap.size + 1, 0, rfl, fun i x hi => ?_⟩, by go_grown⟩
  have hc := fun j => World.cell?_alloc_new (w.alloc (.cells #[.int .i64 1, .int .i64 1, .int .i64 5, .int .i64 30, .string ⟨#[49]⟩, .string ⟨#[84]⟩, .int .i64 0, .slice (some ⟨w.heap.size + 1, 0, none⟩) 2 2] 39)) #[.string ⟨#[97, 117, 100, 105, 116, 101, 100]⟩, .int .i64 20, .int .i64 25, .int .i64 26, .string ⟨#[97, 117, 100, 105, 116, 101, 100]⟩, .int .i64 22, .int .i64 22, .int .i64 40] 74 j
  simp only [World.size_alloc] at hc
  have hlt := (List.getElem?_eq_some_iff.1 hi).1
  rcases (show i = 0 ∨ i = 1 by simp [exN] at hlt; omega) with rfl | rfl
  · obtain rfl := Option.some.inj hi
    exact ⟨hc 0, hc 1, hc 2, hc 3⟩
  · obtain rfl := Option.some.inj hi
    exact ⟨hc 4, hc 5, hc 6, hc 7⟩

theorem exC_err : clsE exC = 0 := by decide +kernel
theorem exP_err (b : Nat) : atE [exP b] 0 = 0 := by
  show vrsE none 0 (exP b) = 0
  show (if ¬ ((1 : Int) = 0 + 1 ∧ (0 : Int) ≤ 0 ∧ (0 : Int) < 50 ∧ (50 : Int) ≤ 1048576) then (2 : Int) else if 128 < 1 ∨ 128 < 0 then 8 else if clsE exC ≠ 0 then clsE exC else if 0 < 0 then 1 else 0) = 0
  rw [exC_err]
  simp
theorem exP_chk (b : Nat) : ChkIs [exP b] (-1) 0 := by
  refine .inr (.inl ⟨by show 1 ≤ 16; omega, fun i hi => ?_, rfl, rfl⟩)
  obtain rfl : i = 0 := by simp at hi; exact hi
  exact exP_err b
theorem exP_fol (b c : Nat) : FolIs [exP b] 0 (vno [exP b] (exF c).op) (vno [exP b] 9) (exF c).c ⟨#[49]⟩ 0 := by
  refine .inr (.inr ⟨rfl, 1, 1, exP b, rfl, rfl, by omega, by omega, by show 1 ≤ 1; omega, rfl, .inr ⟨?_, rfl, rfl⟩⟩)
  show has exC ⟨#[49]⟩ = true
  decide +kernel
theorem tr1 (b : Nat) : datV (trgO (exF b) ⟨#[97, 117, 100, 105, 116, 101, 100]⟩ 41) = .tuple #[.agg #[.int .i64 20, .int .i64 25], .bool true] := by
  show datV (trgO (exF 0) ⟨#[97, 117, 100, 105, 116, 101, 100]⟩ 41) = _
  rw [show trgO (exF 0) ⟨#[97, 117, 100, 105, 116, 101, 100]⟩ 41 = some (20, 25) by decide +kernel]
  rfl
theorem tr2 (b : Nat) : datV (trgO (exF b) ⟨#[99, 108, 111, 115, 101, 100]⟩ 30) = .tuple #[.agg #[.int .i64 30, .int .i64 30], .bool true] := by
  show datV (trgO (exF 0) ⟨#[99, 108, 111, 115, 101, 100]⟩ 30) = _
  rw [show trgO (exF 0) ⟨#[99, 108, 111, 115, 101, 100]⟩ 30 = some (30, 30) by decide +kernel]
  rfl
theorem tr3 (b : Nat) : datV (trgO (exF b) ⟨#[99, 108, 111, 115, 101, 100]⟩ 29) = .tuple #[.agg #[.int .i64 0, .int .i64 0], .bool false] := by
  show datV (trgO (exF 0) ⟨#[99, 108, 111, 115, 101, 100]⟩ 29) = _
  rw [show trgO (exF 0) ⟨#[99, 108, 111, 115, 101, 100]⟩ 29 = none by decide +kernel]
  rfl
theorem kn26 (b : Nat) : (kn (exF b).ns 26).length = 1 := by
  show (kn exN 26).length = 1
  decide +kernel
theorem st5 (b : Nat) : staI (exF b) 5 = 1 := rfl

theorem exN_small (b : Nat) : (exF b).ns.length ≤ 1000000000 := by show 2 ≤ 1000000000; omega
theorem exf_any2 (w : World) : Calls Tryz.prog 39 #[] w fun e w' => ∃ b, e = .returned (.agg #[.int .i64 1, .int .i64 1, .int .i64 5, .int .i64 30, .string ⟨#[49]⟩, .string ⟨#[84]⟩, .int .i64 0, .slice (some ⟨b, 0, none⟩) 2 2]) ∧ NtsAt w' (some ⟨b, 0, none⟩) exN ∧ Below w.heap.size w w' := exf_any w
theorem t1_any (b : Nat) (w : World) (h : NtsAt w (some ⟨b, 0, none⟩) exN) : Calls Tryz.prog 40 #[.agg #[.int .i64 1, .int .i64 1, .int .i64 5, .int .i64 30, .string ⟨#[49]⟩, .string ⟨#[84]⟩, .int .i64 0, .slice (some ⟨b, 0, none⟩) 2 2], .string ⟨#[97, 117, 100, 105, 116, 101, 100]⟩, .int .i64 41] w fun e w' => e = .returned (.tuple #[.agg #[.int .i64 20, .int .i64 25], .bool true]) ∧ Below w.heap.size w w' := by
  rw [← tr1 b]
  exact Trigger_any (exF b) _ _ w h (exN_small b)
theorem t2_any (b : Nat) (w : World) (h : NtsAt w (some ⟨b, 0, none⟩) exN) : Calls Tryz.prog 40 #[.agg #[.int .i64 1, .int .i64 1, .int .i64 5, .int .i64 30, .string ⟨#[49]⟩, .string ⟨#[84]⟩, .int .i64 0, .slice (some ⟨b, 0, none⟩) 2 2], .string ⟨#[99, 108, 111, 115, 101, 100]⟩, .int .i64 30] w fun e w' => e = .returned (.tuple #[.agg #[.int .i64 30, .int .i64 30], .bool true]) ∧ Below w.heap.size w w' := by
  rw [← tr2 b]
  exact Trigger_any (exF b) _ _ w h (exN_small b)
theorem t3_any (b : Nat) (w : World) (h : NtsAt w (some ⟨b, 0, none⟩) exN) : Calls Tryz.prog 40 #[.agg #[.int .i64 1, .int .i64 1, .int .i64 5, .int .i64 30, .string ⟨#[49]⟩, .string ⟨#[84]⟩, .int .i64 0, .slice (some ⟨b, 0, none⟩) 2 2], .string ⟨#[99, 108, 111, 115, 101, 100]⟩, .int .i64 29] w fun e w' => e = .returned (.tuple #[.agg #[.int .i64 0, .int .i64 0], .bool false]) ∧ Below w.heap.size w w' := by
  rw [← tr3 b]
  exact Trigger_any (exF b) _ _ w h (exN_small b)
theorem k1_any (b : Nat) (w : World) (h : NtsAt w (some ⟨b, 0, none⟩) exN) : Calls Tryz.prog 41 #[.agg #[.int .i64 1, .int .i64 1, .int .i64 5, .int .i64 30, .string ⟨#[49]⟩, .string ⟨#[84]⟩, .int .i64 0, .slice (some ⟨b, 0, none⟩) 2 2], .int .i64 26] w fun e w' => ∃ p c, e = .returned (.slice p 1 c) ∧ Below w.heap.size w w' := by
  refine (Known_any (exF b) 26 w h (exN_small b)).mono ?_
  rintro e w' ⟨v, rfl, hr, hb⟩
  obtain ⟨p, c, rfl, _⟩ := nts_of_row hr
  exact ⟨p, c, by rw [kn26], hb⟩
theorem s1_any (b : Nat) (w : World) : Calls Tryz.prog 42 #[.agg #[.int .i64 1, .int .i64 1, .int .i64 5, .int .i64 30, .string ⟨#[49]⟩, .string ⟨#[84]⟩, .int .i64 0, .slice (some ⟨b, 0, none⟩) 2 2], .int .i64 5] w fun e w' => e = .returned (.int .i64 1) ∧ Below w.heap.size w w' := State_any (exF b) 5 w
theorem exFit (c : Nat) : ∀ y ∈ [exP c], Fit y := by
  intro y hy
  obtain rfl : y = exP c := by simpa using hy
  refine ⟨by show ((1 : Nat) : Int) ≤ _; omega, by show ((0 : Nat) : Int) ≤ _; omega, ?_, fun z hz => by cases hz⟩
  intro z hz
  have : z = ⟨⟨#[49]⟩, ⟨#[84]⟩⟩ := by simpa [exP, exC] using hz
  subst this
  exact ⟨by show 1 ≤ 1000000000000; omega, by show 1 ≤ 1000000000000; omega⟩
theorem c1_any (b c g : Nat) (w : World) (hE : Env w) (hg : PlnAt w g 0 (exP c)) (hc : PrAt w c 0 ⟨⟨#[49]⟩, ⟨#[84]⟩⟩) : Calls Tryz.prog 19 #[.slice (some ⟨g, 0, none⟩) 1 1, .agg #[.int .i64 1, .int .i64 1, .int .i64 5, .int .i64 30, .string ⟨#[49]⟩, .string ⟨#[84]⟩, .int .i64 0, .slice (some ⟨b, 0, none⟩) 2 2], .int .i64 9] w fun e w' => e = .returned (.tuple #[.string ⟨#[49]⟩, .int .i64 0]) ∧ Below w.heap.size w w' := by
  refine Class_any (some ⟨g, 0, none⟩) 1 1 [exP c] (exF b) 9 w hE (.inr ⟨g, 0, rfl, fun i x hi => ?_⟩) rfl (Nat.le_refl _) (by omega) (exFit c) (by show 1 ≤ 1000000000000; omega) (-1) 0 (exP_chk c) ⟨#[49]⟩ 0 (exP_fol c b)
  have hlt := (List.getElem?_eq_some_iff.1 hi).1
  obtain rfl : i = 0 := by simpa using hlt
  obtain rfl := Option.some.inj hi
  refine ⟨by rw [Nat.zero_mul]; exact hg, .inr ⟨c, 0, rfl, fun j y hj => ?_⟩, .inl rfl⟩
  have hlt2 := (List.getElem?_eq_some_iff.1 hj).1
  obtain rfl : j = 0 := by simpa [exP, exC] using hlt2
  obtain rfl := Option.some.inj hj
  rw [Nat.zero_mul]
  exact hc

set_option maxRecDepth 100000 in
set_option maxHeartbeats 8000000 in
theorem awakeF_true (w : World) (hE : Env w) : Calls Tryz.prog 17 #[] w fun e w' => e = .returned (.bool true) ∧ Below w.heap.size w w' := by
  have E0 := Lib.hid hE
  clear hE
  go_enter Tryz.func17, Tryz.ntmps17
  go_wp2_with fail
  refine (exf_any2 _).mono ?_
  rintro e w1 ⟨b, rfl, hn, hb⟩
  have B1 := Lib.hid hb
  obtain ⟨W2, hW2⟩ : ∃ W2, W2 = w1.alloc (.cells #[.int .i64 1, .int .i64 1, .int .i64 5, .int .i64 30, .string ⟨#[49]⟩, .string ⟨#[84]⟩, .int .i64 0, .slice (some ⟨b, 0, none⟩) 2 2] 39) := ⟨_, rfl⟩
  obtain ⟨c, hc⟩ : ∃ c, c = w1.heap.size := ⟨_, rfl⟩
  have X2 : Hid (FilAt W2 c 0 (exF b)) := by rw [hc, hW2]; exact fil_new w1 (exF b) 39
  have B2 : Hid (Below w.heap.size w W2) := by rw [hW2]; exact hb.alloc hb.size _
  have N2 : Hid (NtsAt W2 (some ⟨b, 0, none⟩) exN) := by rw [hW2]; exact hn.next ((Below.refl _ _).alloc (Nat.le_refl _) _)
  clear hb hn
  have LD : ∀ w1, FilAt w1 c 0 (exF b) → w1.cell? ⟨c, 0, none⟩ = some (.int .i64 1) ∧ w1.cell? ⟨c, 1, none⟩ = some (.int .i64 1) ∧ w1.cell? ⟨c, 2, none⟩ = some (.int .i64 5) ∧ w1.cell? ⟨c, 3, none⟩ = some (.int .i64 30) ∧ w1.cell? ⟨c, 4, none⟩ = some (.string ⟨#[49]⟩) ∧ w1.cell? ⟨c, 5, none⟩ = some (.string ⟨#[84]⟩) ∧ w1.cell? ⟨c, 6, none⟩ = some (.int .i64 0) ∧ w1.cell? ⟨c, 7, none⟩ = some (.slice (some ⟨b, 0, none⟩) 2 2) := fun w1 h => ⟨h.c0, h.c1, h.c2, h.c3, h.c4, h.c5, h.c6, h.c7⟩
  have HLD := Lib.hid LD
  obtain ⟨x0, x1, x2, x3, x4, x5, x6, x7⟩ := LD _ X2.out
  clear LD
  go_wp2_with fail
  try rw [← hW2, ← hc]
  clear hW2 hc
  refine (t1_any b _ N2.out).mono ?_
  rintro e w3 ⟨rfl, hb⟩
  obtain ⟨W4, hW4⟩ : ∃ W4, W4 = w3.alloc (.cells #[.int .i64 20, .int .i64 25] 68) := ⟨_, rfl⟩
  obtain ⟨d4, hd4⟩ : ∃ d4, d4 = w3.heap.size := ⟨_, rfl⟩
  have BB4 : Hid (Below W2.heap.size W2 W4) := by rw [hW4]; exact hb.alloc hb.size _
  have B4 : Hid (Below w.heap.size w W4) := B2.out.trans (BB4.out.mono B2.out.size)
  have N4 := Lib.hid (N2.out.next BB4.out)
  have X4 := Lib.hid (X2.out.next BB4.out)
  have D4 : Hid (HoldsN 2 W4 d4 (fun i => ([.int .i64 20, .int .i64 25] : List Value).getD i undef)) := by rw [hW4, hd4]; exact HoldsN.new w3 ([.int .i64 20, .int .i64 25] : List Value) 68 2 rfl
  clear hb x0 x1 x2 x3 x4 x5 x6 x7
  obtain ⟨x0, x1, x2, x3, x4, x5, x6, x7⟩ := HLD.out _ X4.out
  rw [hW4] at x0 x1 x2 x3 x4 x5 x6 x7
  go_wp2_with fail
  rw [← hW4] at x0 x1 x2 x3 x4 x5 x6 x7
  try rw [← hW4, ← hd4]
  clear hW4 hd4
  refine (t2_any b _ N4.out).mono ?_
  rintro e w5 ⟨rfl, hb⟩
  obtain ⟨W6, hW6⟩ : ∃ W6, W6 = w5.alloc (.cells #[.int .i64 30, .int .i64 30] 68) := ⟨_, rfl⟩
  obtain ⟨d6, hd6⟩ : ∃ d6, d6 = w5.heap.size := ⟨_, rfl⟩
  have BB6 : Hid (Below W4.heap.size W4 W6) := by rw [hW6]; exact hb.alloc hb.size _
  have B6 : Hid (Below w.heap.size w W6) := B4.out.trans (BB6.out.mono B4.out.size)
  have N6 := Lib.hid (N4.out.next BB6.out)
  have X6 := Lib.hid (X4.out.next BB6.out)
  have D6 : Hid (HoldsN 2 W6 d6 (fun i => ([.int .i64 30, .int .i64 30] : List Value).getD i undef)) := by rw [hW6, hd6]; exact HoldsN.new w5 ([.int .i64 30, .int .i64 30] : List Value) 68 2 rfl
  have D4_6 := Lib.hid (D4.out.next BB6.out)
  clear hb x0 x1 x2 x3 x4 x5 x6 x7
  obtain ⟨x0, x1, x2, x3, x4, x5, x6, x7⟩ := HLD.out _ X6.out
  rw [hW6] at x0 x1 x2 x3 x4 x5 x6 x7
  go_wp2_with fail
  rw [← hW6] at x0 x1 x2 x3 x4 x5 x6 x7
  try rw [← hW6, ← hd6]
  clear hW6 hd6
  refine (t3_any b _ N6.out).mono ?_
  rintro e w7 ⟨rfl, hb⟩
  obtain ⟨W8, hW8⟩ : ∃ W8, W8 = w7.alloc (.cells #[.int .i64 0, .int .i64 0] 68) := ⟨_, rfl⟩
  obtain ⟨d8, hd8⟩ : ∃ d8, d8 = w7.heap.size := ⟨_, rfl⟩
  have BB8 : Hid (Below W6.heap.size W6 W8) := by rw [hW8]; exact hb.alloc hb.size _
  have B8 : Hid (Below w.heap.size w W8) := B6.out.trans (BB8.out.mono B6.out.size)
  have N8 := Lib.hid (N6.out.next BB8.out)
  have X8 := Lib.hid (X6.out.next BB8.out)
  have D8 : Hid (HoldsN 2 W8 d8 (fun i => ([.int .i64 0, .int .i64 0] : List Value).getD i undef)) := by rw [hW8, hd8]; exact HoldsN.new w7 ([.int .i64 0, .int .i64 0] : List Value) 68 2 rfl
  have D4_8 := Lib.hid (D4_6.out.next BB8.out)
  have D6_8 := Lib.hid (D6.out.next BB8.out)
  obtain ⟨W10, hW10⟩ : ∃ W10, W10 = (W8.alloc (.cells #[.string ⟨#[49]⟩, .string ⟨#[84]⟩] 65)).alloc (.cells #[.int .i64 1, .int .i64 0, .int .i64 50, .slice (some ⟨d8 + 1, 0, none⟩) 1 1, .slice none 0 0] 51) := ⟨_, rfl⟩
  have z8 : W8.heap.size = d8 + 1 := by rw [hW8, hd8]; simp
  have BB10 : Hid (Below W8.heap.size W8 W10) := by rw [hW10]; exact ((Below.refl _ _).alloc (Nat.le_refl _) _).alloc (by simp) _
  have B10 : Hid (Below w.heap.size w W10) := B8.out.trans (BB10.out.mono B8.out.size)
  have N10 := Lib.hid (N8.out.next BB10.out)
  have X10 := Lib.hid (X8.out.next BB10.out)
  have D4_10 := Lib.hid (D4_8.out.next BB10.out)
  have D6_10 := Lib.hid (D6_8.out.next BB10.out)
  have P10 : Hid (PlnAt W10 (d8 + 1 + 1) 0 (exP (d8 + 1))) := by
    rw [hW10, ← z8]
    have := fun i => World.cell?_alloc_new (W8.alloc (.cells #[.string ⟨#[49]⟩, .string ⟨#[84]⟩] 65)) #[.int .i64 1, .int .i64 0, .int .i64 50, .slice (some ⟨W8.heap.size, 0, none⟩) 1 1, .slice none 0 0] 51 i
    simp only [World.size_alloc] at this
    exact ⟨this 0, this 1, this 2, this 3, this 4⟩
  have Q10 : Hid (PrAt W10 (d8 + 1) 0 ⟨⟨#[49]⟩, ⟨#[84]⟩⟩) := by
    rw [hW10, ← z8]
    refine PrAt.next ?_ ((Below.refl _ _).alloc (Nat.le_refl _) _)
    exact ⟨World.cell?_alloc_new W8 _ 65 0, World.cell?_alloc_new W8 _ 65 1⟩
  clear hb x0 x1 x2 x3 x4 x5 x6 x7 z8
  obtain ⟨x0, x1, x2, x3, x4, x5, x6, x7⟩ := HLD.out _ X10.out
  rw [hW10, hW8, hd8] at x0 x1 x2 x3 x4 x5 x6 x7
  go_wp2_with fail
  try rw [← hd8]
  try rw [← hW8]
  try rw [← hW10]
  clear hW10 hW8 hd8 x0 x1 x2 x3 x4 x5 x6 x7
  refine (c1_any b (d8 + 1) (d8 + 1 + 1) W10 (E0.out.below B10.out) P10.out Q10.out).mono ?_
  rintro e w11 ⟨rfl, hb⟩
  have B11 := Lib.hid (B10.out.trans (hb.mono B10.out.size))
  have N11 := Lib.hid (N10.out.next hb)
  have X11 := Lib.hid (X10.out.next hb)
  have D4_11 := Lib.hid (D4_10.out.next hb)
  have D6_11 := Lib.hid (D6_10.out.next hb)
  have p0 := D4_11.out.cell 0 (by omega); have p1 := D4_11.out.cell 1 (by omega)
  have q0 := D6_11.out.cell 0 (by omega); have q1 := D6_11.out.cell 1 (by omega)
  obtain ⟨x0, x1, x2, x3, x4, x5, x6, x7⟩ := HLD.out _ X11.out
  clear hb
  go_wp2_with fail
  refine (k1_any b _ N11.out).mono ?_
  rintro e w12 ⟨kp, kc, rfl, hb⟩
  have B12 := Lib.hid (B11.out.trans (hb.mono B11.out.size))
  have X12 := Lib.hid (X11.out.next hb)
  clear hb x0 x1 x2 x3 x4 x5 x6 x7 p0 p1 q0 q1
  obtain ⟨x0, x1, x2, x3, x4, x5, x6, x7⟩ := HLD.out _ X12.out
  go_wp2_with fail
  refine (s1_any b _).mono ?_
  rintro e w13 ⟨rfl, hb⟩
  have B13 := Lib.hid (B12.out.trans (hb.mono B12.out.size))
  clear hb
  go_wp2_with fail
  go_ret
  exact ⟨rfl, B13.out⟩

end Go.Proofs.YtbjbioiggjhknaaGreatDoor
