/-
  The chapter's example of plans: made, and without fault. No statement of the seat is proved here.
-/
import Derived.Test.YtbjbioiggjhknaaDoorEx
import Derived.Test.YtbjbioiggjhknaaDoorSo
namespace Go.Proofs.YtbjbioiggjhknaaDoor
open Go Go.RowKit

def exA : List Pr := [⟨⟨#[49]⟩, ⟨#[84]⟩⟩, ⟨⟨#[49, 46, 49]⟩, ⟨#[84]⟩⟩, ⟨⟨#[49, 46, 50]⟩, ⟨#[84]⟩⟩, ⟨⟨#[50]⟩, ⟨#[84]⟩⟩]
def exB : List Pr := [⟨⟨#[49]⟩, ⟨#[84]⟩⟩, ⟨⟨#[49, 46, 50]⟩, ⟨#[84]⟩⟩, ⟨⟨#[50]⟩, ⟨#[84]⟩⟩, ⟨⟨#[51]⟩, ⟨#[84]⟩⟩]
def exM : List Pr := [⟨⟨#[50]⟩, ⟨#[51]⟩⟩]
def exX (p : Option Addr) (c : Nat) : Pln := { v := 1, f := 0, u := 100, cp := p, cc := c, cs := exA, mp := none, mc := 0, ms := [] }
def exY (q : Option Addr) (d g : Nat) : Pln := { v := 2, f := 100, u := 1048576, cp := q, cc := d, cs := exB, mp := some ⟨g, 0, none⟩, mc := 1, ms := exM }

theorem four {s0 s1 s2 s3 : ByteArray} (w w' : World) (hb : Below (w.alloc (.cells #[.string s0, .string s1, .string s2, .string s3] 9)).heap.size (w.alloc (.cells #[.string s0, .string s1, .string s2, .string s3] 9)) w') (L : List Pr) (hL : L = [⟨s0, ⟨#[84]⟩⟩, ⟨s1, ⟨#[84]⟩⟩, ⟨s2, ⟨#[84]⟩⟩, ⟨s3, ⟨#[84]⟩⟩]) : ∀ i y, L[i]? = some y → w'.cell? ⟨w.heap.size, i, none⟩ = some (.string y.c) := by
  intro i y hi
  subst hL
  have hc := fun j => World.cell?_alloc_new w #[.string s0, .string s1, .string s2, .string s3] 9 j
  refine cell_next ?_ hb
  rw [hc]
  match i, hi with
  | 0, hi => obtain rfl := Option.some.inj hi; rfl
  | 1, hi => obtain rfl := Option.some.inj hi; rfl
  | 2, hi => obtain rfl := Option.some.inj hi; rfl
  | 3, hi => obtain rfl := Option.some.inj hi; rfl

set_option maxRecDepth 100000 in
set_option maxHeartbeats 4000000 in
theorem ex34_any (w : World) : Calls Tryd.prog 9 #[] w fun e w' => ∃ (p q : Option Addr) (c d g h : Nat), e = .returned (.slice (some ⟨h, 0, none⟩) 2 2) ∧ PlnsAt w' (some ⟨h, 0, none⟩) [exX p c, exY q d g] ∧ Below w.heap.size w w' := by
  have K1 := fun w2 : World => class62_any w2.heap.size 4 4 exA (w2.alloc (.cells #[.string ⟨#[49]⟩, .string ⟨#[49, 46, 49]⟩, .string ⟨#[49, 46, 50]⟩, .string ⟨#[50]⟩] 9)) (by decide) (four w2 _ (Below.refl _ _) exA rfl) rfl (by omega)
  have K2 := fun w2 : World => class62_any w2.heap.size 4 4 exB (w2.alloc (.cells #[.string ⟨#[49]⟩, .string ⟨#[49, 46, 50]⟩, .string ⟨#[50]⟩, .string ⟨#[51]⟩] 9)) (by decide) (four w2 _ (Below.refl _ _) exB rfl) rfl (by omega)
  have C1 := Lib.hid K1; have C2 := Lib.hid K2
  clear K1 K2
  go_enter Tryd.func9, Tryd.ntmps9
  go_wp2_with fail
  refine (C1.out w).mono ?_
  rintro e w1 ⟨v1, rfl, hr1, hb1⟩
  obtain ⟨p, c, rfl, hN1⟩ := prs_of_row hr1
  have B1 : Hid (Below w.heap.size w w1) := ((Below.refl w.heap.size w).alloc (Nat.le_refl _) _).trans (hb1.mono (by simp))
  have N1 := Lib.hid hN1
  clear hr1 hb1 hN1
  go_wp2_with fail
  refine (C2.out w1).mono ?_
  rintro e w2 ⟨v2, rfl, hr2, hb2⟩
  obtain ⟨q, d, rfl, hN2⟩ := prs_of_row hr2
  have B2 : Hid (Below w1.heap.size w1 w2) := ((Below.refl w1.heap.size w1).alloc (Nat.le_refl _) _).trans (hb2.mono (by simp))
  have N2 := Lib.hid hN2
  clear hr2 hb2 hN2
  go_wp2_with fail
  go_ret
  refine ⟨p, q, c, d, w2.heap.size, w2.heap.size + 1, rfl, .inr ⟨w2.heap.size + 1, 0, rfl, fun i z hi => ?_⟩, ?_⟩
  · have hlt := (List.getElem?_eq_some_iff.1 hi).1
    have hm := fun j => World.cell?_alloc_new w2 #[.string ⟨#[50]⟩, .string ⟨#[51]⟩] 56 j
    have hc := fun j => World.cell?_alloc_new (w2.alloc (.cells #[.string ⟨#[50]⟩, .string ⟨#[51]⟩] 56)) #[.int .i64 1, .int .i64 0, .int .i64 100, .slice p exA.length c, .slice none 0 0, .int .i64 2, .int .i64 100, .int .i64 1048576, .slice q exB.length d, .slice (some ⟨w2.heap.size, 0, none⟩) 1 1] 34 j
    simp only [World.size_alloc] at hc
    have bb : ∀ o : Obj, Below (w2.alloc (.cells #[.string ⟨#[50]⟩, .string ⟨#[51]⟩] 56)).heap.size (w2.alloc (.cells #[.string ⟨#[50]⟩, .string ⟨#[51]⟩] 56)) ((w2.alloc (.cells #[.string ⟨#[50]⟩, .string ⟨#[51]⟩] 56)).alloc o) := fun o => (Below.refl _ _).alloc (Nat.le_refl _) _
    have ba : Below w2.heap.size w2 (w2.alloc (.cells #[.string ⟨#[50]⟩, .string ⟨#[51]⟩] 56)) := (Below.refl _ _).alloc (Nat.le_refl _) _
    rcases (show i = 0 ∨ i = 1 by simp at hlt; omega) with rfl | rfl
    · obtain rfl := Option.some.inj hi
      exact ⟨⟨hc 0, hc 1, hc 2, hc 3, hc 4⟩, ((N1.out.next B2.out).next ba).next (bb _), .inl rfl⟩
    · obtain rfl := Option.some.inj hi
      refine ⟨⟨hc 5, hc 6, hc 7, hc 8, hc 9⟩, (N2.out.next ba).next (bb _), .inr ⟨w2.heap.size, 0, rfl, fun j u hj => ?_⟩⟩
      have hlj := (List.getElem?_eq_some_iff.1 hj).1
      obtain rfl : j = 0 := by have : j < 1 := hlj; omega
      obtain rfl := Option.some.inj hj
      exact ⟨cell_next (hm 0) (bb _), cell_next (hm 1) (bb _)⟩
  · have B3 : Below w.heap.size w w2 := B1.out.trans (B2.out.mono B1.out.size)
    exact (B3.alloc B3.size _).alloc (by have := B3.size; simp; omega) _

theorem exA_err : clsE exA = 0 := by decide +kernel
theorem exB_err : clsE exB = 0 := by decide +kernel
theorem ex_chk (p q : Option Addr) (c d g : Nat) : ChkIs [exX p c, exY q d g] (-1) 0 := by
  refine .inr (.inl ⟨by show 2 ≤ 16; omega, fun i hi => ?_, rfl, rfl⟩)
  rcases (show i = 0 ∨ i = 1 by simp at hi; omega) with rfl | rfl
  · show (if ¬ ((1 : Int) = 0 + 1 ∧ (0 : Int) ≤ 0 ∧ (0 : Int) < 100 ∧ (100 : Int) ≤ 1048576) then (2 : Int) else if 128 < 4 ∨ 128 < 0 then 8 else if clsE exA ≠ 0 then clsE exA else if 0 < 0 then 1 else 0) = 0
    rw [exA_err]
    simp
  · show (if ¬ ((2 : Int) = 1 + 1 ∧ (0 : Int) ≤ 100 ∧ (100 : Int) < 1048576 ∧ (1048576 : Int) ≤ 1048576) then (2 : Int) else if (100 : Int) ≠ 100 then 16 else if 128 < 4 ∨ 128 < 1 then 8 else if clsE exB ≠ 0 then clsE exB else stpE (exX p c) (exY q d g)) = 0
    rw [exB_err, show stpE (exX p c) (exY q d g) = stpE (exX none 0) (exY none 0 0) from rfl, show stpE (exX none 0) (exY none 0 0) = 0 by decide +kernel]
    simp
theorem ex_fol1 (p q : Option Addr) (c d g : Nat) : FolIs [exX p c, exY q d g] 0 1 2 ⟨#[49, 46, 49]⟩ ⟨#[49]⟩ 0 := by
  refine .inr (.inr ⟨rfl, 1, 2, exX p c, rfl, rfl, by omega, by omega, by show 2 ≤ 2; omega, rfl, .inr ⟨?_, ?_, rfl⟩⟩)
  · show has exA ⟨#[49, 46, 49]⟩ = true
    decide +kernel
  · show _ = (nxt (exX none 0) (exY none 0 0) ⟨#[49, 46, 49]⟩).getD emp
    decide +kernel
theorem ex_fol2 (p q : Option Addr) (c d g : Nat) : FolIs [exX p c, exY q d g] 0 1 2 ⟨#[50]⟩ ⟨#[51]⟩ 0 := by
  refine .inr (.inr ⟨rfl, 1, 2, exX p c, rfl, rfl, by omega, by omega, by show 2 ≤ 2; omega, rfl, .inr ⟨?_, ?_, rfl⟩⟩)
  · show has exA ⟨#[50]⟩ = true
    decide +kernel
  · show _ = (nxt (exX none 0) (exY none 0 0) ⟨#[50]⟩).getD emp
    decide +kernel
theorem ex_src (p q : Option Addr) (c d g : Nat) : (exA.filter fun z => decide (walkF (subl [exX p c, exY q d g] 1 2) z.c = ⟨#[49]⟩)).map (·.c) = [⟨#[49]⟩, ⟨#[49, 46, 49]⟩] := by
  show (exA.filter fun z => decide ((nxt (exX none 0) (exY none 0 0) z.c).getD emp = ⟨#[49]⟩)).map (·.c) = _
  decide +kernel

theorem ex_fit (p q : Option Addr) (c d g : Nat) : ∀ y ∈ [exX p c, exY q d g], Fit y := by
  have sA : ∀ z ∈ exA, z.c.size ≤ 140737488355328 ∧ z.t.size ≤ 140737488355328 := by decide
  have sB : ∀ z ∈ exB, z.c.size ≤ 140737488355328 ∧ z.t.size ≤ 140737488355328 := by decide
  have sM : ∀ z ∈ exM, z.c.size ≤ 140737488355328 ∧ z.t.size ≤ 140737488355328 := by decide
  intro y hy
  rcases List.mem_cons.1 hy with rfl | hy
  · exact ⟨by show (4 : Int) ≤ _; omega, by show (0 : Int) ≤ _; omega, sA, fun z hz => by cases hz⟩
  · obtain rfl := List.mem_singleton.1 hy
    exact ⟨by show (4 : Int) ≤ _; omega, by show (1 : Int) ≤ _; omega, sB, sM⟩
theorem ex_at (p q : Option Addr) (c d g : Nat) : idxV ([exX p c, exY q d g].findIdx? (on 100)) = 1 := rfl
theorem ex_last (q : Option Addr) (d g : Nat) : has (exY q d g).cs ⟨#[49]⟩ = true := by
  show has exB ⟨#[49]⟩ = true
  decide +kernel

set_option maxRecDepth 100000 in
set_option maxHeartbeats 8000000 in
theorem awakeP_true (w : World) (hE : Env w) : Calls Tryd.prog 4 #[] w fun e w' => e = .returned (.bool true) ∧ Below w.heap.size w w' := by
  have E0 := Lib.hid hE
  clear hE
  go_enter Tryd.func4, Tryd.ntmps4
  go_wp2_with fail
  refine (ex34_any w).mono ?_
  rintro e w1 ⟨p, q, c, d, g, h, rfl, hL, hb⟩
  have B1 : Hid (Below w.heap.size w w1) := hb
  have L1 := Lib.hid hL
  clear hL hb
  obtain ⟨l, hl⟩ : ∃ l, l = [exX p c, exY q d g] := ⟨_, rfl⟩
  have HLN : Hid (l.length = 2) := by rw [hl]; rfl
  have HF : Hid (∀ y ∈ l, Fit y) := by rw [hl]; exact ex_fit p q c d g
  have HC : Hid (ChkIs l (-1) 0) := by rw [hl]; exact ex_chk p q c d g
  have H1 : Hid (FolIs l 0 1 2 ⟨#[49, 46, 49]⟩ ⟨#[49]⟩ 0) := by rw [hl]; exact ex_fol1 p q c d g
  have H2 : Hid (FolIs l 0 1 2 ⟨#[50]⟩ ⟨#[51]⟩ 0) := by rw [hl]; exact ex_fol2 p q c d g
  have HA : Hid (idxV (l.findIdx? (on 100)) = 1) := by rw [hl]; exact ex_at p q c d g
  have HS : Hid (∀ B v r w', SrcAns l 0 1 2 ⟨#[49]⟩ B v r w' → r = 0 ∧ ∃ g2 c2, v = .slice (some ⟨g2, 0, none⟩) 2 c2 ∧ w'.cell? ⟨g2, 0, none⟩ = some (.string ⟨#[49]⟩) ∧ w'.cell? ⟨g2, 1, none⟩ = some (.string ⟨#[49, 46, 49]⟩)) := fun B v r w' hs => by
    rcases hs with ⟨k, _⟩ | ⟨_, k, _⟩ | ⟨_, a', b', x, y, ha, hb, _, _, _, hx, hy, hs⟩
    · exact absurd rfl k
    · rw [hl] at k
      simp at k
    · obtain rfl : a' = 1 := by omega
      obtain rfl : b' = 2 := by omega
      rw [hl] at hx hy hs
      obtain rfl : exX p c = x := Option.some.inj hx
      obtain rfl : exY q d g = y := Option.some.inj hy
      rcases hs with ⟨k, _⟩ | ⟨_, hr, hrow⟩
      · rw [ex_last] at k
        cases k
      · have e1 := ex_src p q c d g
        have e2 : strC (exA.filter fun z => decide (walkF (subl [exX p c, exY q d g] 1 2) z.c = ⟨#[49]⟩)) = [.string ⟨#[49]⟩, .string ⟨#[49, 46, 49]⟩] := by
          have := congrArg (List.map Value.string) e1
          rw [List.map_map] at this
          exact this
        have e3 : (exA.filter fun z => decide (walkF (subl [exX p c, exY q d g] 1 2) z.c = ⟨#[49]⟩)).length = 2 := by
          have := congrArg List.length e1
          rwa [List.length_map] at this
        change w'.ownsRow B 9 1 v (exA.filter fun z => decide (walkF (subl [exX p c, exY q d g] 1 2) z.c = ⟨#[49]⟩)).length (strC (exA.filter fun z => decide (walkF (subl [exX p c, exY q d g] 1 2) z.c = ⟨#[49]⟩))) at hrow
        rw [e2, e3] at hrow
        refine ⟨hr, ?_⟩
        rcases Go.Joins.ownsRow_forms hrow with ⟨_, k⟩ | ⟨g2, c2, rfl⟩
        · cases k
        · exact ⟨g2, c2, rfl, hrow.cellAt 0 (by omega), hrow.cellAt 1 (by omega)⟩
  have HN : Hid (∀ y ∈ l, y.cs.length ≤ 1000000000) := by
    rw [hl]
    intro y hy
    rcases List.mem_cons.1 hy with rfl | hy
    · show 4 ≤ _; omega
    · obtain rfl := List.mem_singleton.1 hy
      show 4 ≤ _; omega
  rw [← hl] at L1
  clear hl
  have C1 := Lib.hid (fun w2 (hb : Below w1.heap.size w1 w2) => Check_any (some ⟨h, 0, none⟩) 2 2 l w2 (E0.out.below (B1.out.trans (hb.mono B1.out.size))) (L1.out.next hb) HLN.out (Nat.le_refl _) HF.out (-1) 0 HC.out)
  have F1 := Lib.hid (fun (s R : ByteArray) (hs : s.size ≤ 140737488355328) (hf : FolIs l 0 1 2 s R 0) w2 (hb : Below w1.heap.size w1 w2) => Follow_any (some ⟨h, 0, none⟩) 2 2 l 1 2 s w2 (E0.out.below (B1.out.trans (hb.mono B1.out.size))) (L1.out.next hb) HLN.out (Nat.le_refl _) (by omega) HF.out (-1) 0 HC.out hs R 0 hf)
  have S1 := Lib.hid (fun w2 (hb : Below w1.heap.size w1 w2) => Sources_any (some ⟨h, 0, none⟩) 2 2 l 1 2 ⟨#[49]⟩ w2 (E0.out.below (B1.out.trans (hb.mono B1.out.size))) (L1.out.next hb) HLN.out (Nat.le_refl _) (by omega) HF.out (-1) 0 HC.out (by decide) HN.out)
  have A1 := Lib.hid (fun w2 (hb : Below w1.heap.size w1 w2) => At_any (some ⟨h, 0, none⟩) 2 2 l 100 w2 (E0.out.below (B1.out.trans (hb.mono B1.out.size))) (L1.out.next hb) HLN.out (Nat.le_refl _) HF.out (-1) 0 HC.out (by omega))
  rw [if_pos rfl, HA.out] at A1
  go_wp2_with fail
  refine (C1.out w1 (Below.refl _ _)).mono ?_
  rintro e w2 ⟨rfl, hb2⟩
  have N2 := Lib.hid hb2
  clear hb2
  go_wp2_with fail
  refine (F1.out _ _ (by decide) H1.out w2 N2.out).mono ?_
  rintro e w3 ⟨rfl, hb3⟩
  have N3 := Lib.hid (N2.out.trans (hb3.mono N2.out.size))
  clear hb3
  go_wp2_with fail
  refine (F1.out _ _ (by decide) H2.out w3 N3.out).mono ?_
  rintro e w4 ⟨rfl, hb4⟩
  have N4 := Lib.hid (N3.out.trans (hb4.mono N3.out.size))
  clear hb4
  go_wp2_with fail
  refine (S1.out w4 N4.out).mono ?_
  rintro e w5 ⟨v, r, rfl, hans, hb5⟩
  obtain ⟨rfl, g2, c2, rfl, k0, k1⟩ := HS.out _ _ _ _ hans
  have N5 := Lib.hid (N4.out.trans (hb5.mono N4.out.size))
  clear hb5 hans
  have z2 := World.block_lt_of_cell? w5 _ k0
  go_wp2_with fail
  have D1 : ∀ j, j < ([⟨#[49]⟩, ⟨#[49, 46, 49]⟩] : List ByteArray).length → (w5.alloc (.cells #[.string ⟨#[49]⟩, .string ⟨#[49, 46, 49]⟩] 9)).cell? ⟨g2, 0 + j, none⟩ = some (.string (([⟨#[49]⟩, ⟨#[49, 46, 49]⟩] : List ByteArray).getD j ByteArray.empty)) := fun j hj => by
    rw [Nat.zero_add]
    have bb : Below w5.heap.size w5 (w5.alloc (.cells #[.string ⟨#[49]⟩, .string ⟨#[49, 46, 49]⟩] 9)) := (Below.refl _ _).alloc (Nat.le_refl _) _
    rcases (show j = 0 ∨ j = 1 by have : j < 2 := hj; omega) with rfl | rfl
    · exact cell_next k0 bb
    · exact cell_next k1 bb
  have D2 : ∀ j, j < ([⟨#[49]⟩, ⟨#[49, 46, 49]⟩] : List ByteArray).length → (w5.alloc (.cells #[.string ⟨#[49]⟩, .string ⟨#[49, 46, 49]⟩] 9)).cell? ⟨w5.heap.size, 0 + j, none⟩ = some (.string (([⟨#[49]⟩, ⟨#[49, 46, 49]⟩] : List ByteArray).getD j ByteArray.empty)) := fun j hj => by
    rw [Nat.zero_add, World.cell?_alloc_new]
    rcases (show j = 0 ∨ j = 1 by have : j < 2 := hj; omega) with rfl | rfl <;> rfl
  refine (Tryd.slices_Equal_string g2 0 2 c2 w5.heap.size 0 2 2 [⟨#[49]⟩, ⟨#[49, 46, 49]⟩] [⟨#[49]⟩, ⟨#[49, 46, 49]⟩] _ (Nat.le_refl _) (Nat.le_refl _) (by omega) (by omega) D1 D2).mono ?_
  rintro e w6 ⟨rfl, nq, rfl⟩
  rw [show decide ((([⟨#[49]⟩, ⟨#[49, 46, 49]⟩] : List ByteArray).take 2) = ([⟨#[49]⟩, ⟨#[49, 46, 49]⟩] : List ByteArray).take 2) = true from decide_eq_true rfl]
  have N6 : Hid (Below w1.heap.size w1 ((w5.alloc (.cells #[.string ⟨#[49]⟩, .string ⟨#[49, 46, 49]⟩] 9)).drewN nq)) := below_drewN (N5.out.alloc N5.out.size _) nq
  clear D1 D2 k0 k1 z2
  go_wp2_with fail
  refine (A1.out _ N6.out).mono ?_
  rintro e w7 ⟨rfl, hb7⟩
  have N7 : Hid (Below w.heap.size w w7) := B1.out.trans ((N6.out.trans (hb7.mono N6.out.size)).mono B1.out.size)
  clear hb7
  go_wp2_with fail
  go_ret
  exact ⟨rfl, N7.out⟩

end Go.Proofs.YtbjbioiggjhknaaDoor
