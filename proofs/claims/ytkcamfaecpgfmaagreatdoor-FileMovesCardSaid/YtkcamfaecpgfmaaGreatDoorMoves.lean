/-
  PROVED HERE: the law archivumlaw08.FileMoves answers true for every list of plans, file, day and number of days more: a file's class on a day is a class of the plan of that day, not of an earlier plan than that of its opening, and on a later day it is what it has become. Condition: the listed variables hold what the program's text lays in them. Every input is spoken of.
-/
import Derived.Test.YtkcamfaecpgfmaaGreatDoorFp
import Derived.Test.YtkcamfaecpgfmaaGreatDoorKp
import Derived.Test.YtkcamfaecpgfmaaGreatDoorFw
import Derived.Test.YtkcamfaecpgfmaaGreatDoorMo
import Derived.Deep.RegionHeld3
namespace Go.Proofs.YtkcamfaecpgfmaaGreatDoor
open Go Go.RowKit Go.ChangeShapes Go.WideShapes Go.ChangeAt Go.Joins

theorem fil_cells (w : World) (x : Fil) (b : Nat) (h : FilAt w b 0 x) : w.cell? ⟨b, 0, none⟩ = some (.int .i64 x.id) ∧ w.cell? ⟨b, 1, none⟩ = some (.int .i64 x.of) ∧ w.cell? ⟨b, 2, none⟩ = some (.int .i64 x.op) ∧ w.cell? ⟨b, 3, none⟩ = some (.int .i64 x.cl) ∧ w.cell? ⟨b, 4, none⟩ = some (.string x.c) ∧ w.cell? ⟨b, 5, none⟩ = some (.string x.t) ∧ w.cell? ⟨b, 6, none⟩ = some (.int .i64 x.pt) ∧ w.cell? ⟨b, 7, none⟩ = some (.slice x.np x.ns.length x.nc) :=
  ⟨h.c0, h.c1, h.c2, h.c3, h.c4, h.c5, h.c6, h.c7⟩
theorem FilAt.drew {w : World} {b o : Nat} {x : Fil} (h : FilAt w b o x) : FilAt w.drew b o x := ⟨h.c0, h.c1, h.c2, h.c3, h.c4, h.c5, h.c6, h.c7⟩
theorem few_fit {l : List Pln} (h : FewL l) : ∀ y ∈ l, Fit y := fun y hy => by
  obtain ⟨h1, h2, h3, h4⟩ := h.2 y hy
  exact ⟨by omega, by omega, fun z hz => ⟨by have := (h3 z hz).1; omega, by have := (h3 z hz).2; omega⟩, fun z hz => ⟨by have := (h4 z hz).1; omega, by have := (h4 z hz).2; omega⟩⟩
theorem u8_range {x : Int} (h : (Lit.int .u8 x).wf = true) : 0 ≤ x ∧ x ≤ 255 := by
  have e1 : IntKind.u8.min = 0 := by decide +kernel
  have e2 : IntKind.u8.max = 255 := by decide +kernel
  rw [Lit.wf, e1, e2, Bool.and_eq_true, decide_eq_true_eq, decide_eq_true_eq] at h
  exact h
/-- What the class of a file is as a pair. -/
theorem cls_val (R : ByteArray) (r : Int) {l : List Pln} {E a b : Int} {s : ByteArray} (h : FolIs l E a b s R r) : ∃ S q, (if r = 7 then Value.tuple #[.string ⟨#[]⟩, .int .i64 24] else .tuple #[.string R, .int .i64 r]) = .tuple #[.string S, .int .i64 q] ∧
    ((S = ⟨#[]⟩ ∧ q = 1 ∧ E ≠ 0 ∧ r = 1) ∨ (S = ⟨#[]⟩ ∧ q = 24 ∧ E = 0 ∧ r = 7) ∨ (S = R ∧ q = 0 ∧ E = 0 ∧ r = 0)) := by
  rcases h with ⟨h1, h2, h3⟩ | ⟨h1, _, h2, h3⟩ | ⟨h1, _, _, _, _, _, _, _, _, _, ⟨_, h2, h3⟩ | ⟨_, h2, h3⟩⟩
  · exact ⟨R, r, if_neg (by omega), .inl ⟨h2, h3, h1, h3⟩⟩
  · exact ⟨_, _, if_pos h3, .inr (.inl ⟨rfl, rfl, h1, h3⟩)⟩
  · exact ⟨_, _, if_pos h3, .inr (.inl ⟨rfl, rfl, h1, h3⟩)⟩
  · exact ⟨R, r, if_neg (by omega), .inr (.inr ⟨rfl, h3, h1, h3⟩)⟩

set_option maxRecDepth 100000 in
set_option maxHeartbeats 8000000 in
theorem moves_law (p : Option Addr) (cap : Nat) (l : List Pln) (x : Fil) (d m : Int) (w : World) (hE : Env w) (hL : PlnsAt w p l) (hc : l.length ≤ cap) (hN : NtsAt w x.np x.ns) (hm0 : 0 ≤ m) (hm1 : m ≤ 255) :
    Calls Tryz.prog 6 #[.slice p l.length cap, x.val, .int .i64 d, .int .u8 m] w fun e w' => e = .returned (.bool true) ∧ Below w.heap.size w w' := by
  obtain ⟨W1, hW1⟩ : ∃ W1, W1 = w.alloc (.cells x.cells 39) := ⟨_, rfl⟩
  have B1 : Hid (Below w.heap.size w W1) := by rw [hW1]; exact (Below.refl _ _).alloc (Nat.le_refl _) _
  obtain ⟨b, hb⟩ : ∃ b, b = w.heap.size := ⟨_, rfl⟩
  have X1 : Hid (FilAt W1 b 0 x) := by rw [hW1, hb]; exact fil_new w x 39
  have N0 := Lib.hid hN
  have E0 := Lib.hid hE
  have HB := Lib.hid hb
  have FA := Lib.hid (fun (w2 : World) (h : Below w.heap.size w w2) => Few_any x w2.heap.size (w2.alloc (.cells x.cells 39)) (fil_new w2 x 39) ((N0.out.next h).next ((Below.refl _ _).alloc (Nat.le_refl _) _)))
  have hle : d ≤ d + m := by omega
  obtain ⟨d', hd'⟩ : ∃ d', d' = d + m := ⟨_, rfl⟩
  have HD := Lib.hid hd'
  rw [← hd'] at hle
  obtain ⟨I, E, hI⟩ := chk_ex l
  obtain ⟨R, r, hR⟩ := fol_ex l E (vno l x.op) (vno l d) x.c
  obtain ⟨R2, r2, hR2⟩ := fol_ex l E (vno l x.op) (vno l d') x.c
  obtain ⟨S, q, hS, hSq⟩ := cls_val R r hR
  obtain ⟨S2, q2, hS2, hSq2⟩ := cls_val R2 r2 hR2
  obtain ⟨N, hn⟩ : ∃ N, l.length = N := ⟨_, rfl⟩
  have L0 := Lib.hid hL
  have HNl := Lib.hid hn
  have HI := Lib.hid hI; have HR := Lib.hid hR; have HR2 := Lib.hid hR2; have HSq := Lib.hid hSq; have HSq2 := Lib.hid hSq2; have HLE := Lib.hid hle
  have CA := Lib.hid (fun (w2 : World) (h : Below w.heap.size w w2) (hf : FewL l) (hx : x.c.size ≤ 100) => Class_any p l.length cap l x d w2 (E0.out.below h) (L0.out.next h) rfl hc (by have := hf.1; omega) (few_fit hf) (by omega) I E HI.out R r HR.out)
  have CB := Lib.hid (fun (w2 : World) (h : Below w.heap.size w w2) (hf : FewL l) (hx : x.c.size ≤ 100) => Class_any p l.length cap l x d' w2 (E0.out.below h) (L0.out.next h) rfl hc (by have := hf.1; omega) (few_fit hf) (by omega) I E HI.out R2 r2 HR2.out)
  rw [hS] at CA
  rw [hS2] at CB
  have AA := Lib.hid (fun (d0 : Int) (w2 : World) (h : Below w.heap.size w w2) (hf : FewL l) => At_any p l.length cap l d0 w2 (E0.out.below h) (L0.out.next h) rfl hc (few_fit hf) I E HI.out (by have := hf.1; omega))
  have FO := Lib.hid (fun (a b : Int) (s2 : ByteArray) (w2 : World) (h : Below w.heap.size w w2) (hf : FewL l) (hs : s2.size ≤ 1000000000000) (R3 : ByteArray) (r3 : Int) (hr : FolIs l E a b s2 R3 r3) => Follow_any p l.length cap l a b s2 w2 (E0.out.below h) (L0.out.next h) rfl hc (by have := hf.1; omega) (few_fit hf) I E HI.out hs R3 r3 hr)
  have FP := Lib.hid (fun (w2 : World) (h : Below w.heap.size w w2) => FewPlans_any p l.length cap l w2 (L0.out.next h) rfl)
  obtain ⟨F, hF⟩ : ∃ F, F = fewF x := ⟨_, rfl⟩
  rw [← hF] at FA
  have HF := Lib.hid hF
  unfold Fil.val Fil.cells at CA CB ⊢
  unfold Fil.cells at hW1 FA
  obtain ⟨n, hl⟩ : ∃ n, x.ns.length = n := ⟨_, rfl⟩
  have HL := Lib.hid hl
  have FC := Lib.hid (fun w2 h => fil_cells w2 x b h)
  rw [hl] at FA CA CB hW1 ⊢
  rw [hn] at CA CB AA FO FP ⊢
  clear hE hN hF hl hL hc hn hI hR hR2 hS hS2 hSq hSq2 hd' hle
  go_enter Tryz.func6, Tryz.ntmps6
  go_wp2_with fail
  rw [← hW1, ← hb]
  clear hW1 hb
  go_wp2_with fail
  refine (awakeF_true _ (E0.out.below B1.out)).mono ?_
  rintro e w2 ⟨rfl, hb⟩
  have B2 := Lib.hid (B1.out.trans (hb.mono B1.out.size))
  have X2 := Lib.hid (X1.out.next hb)
  clear hb
  go_wp2_with fail
  refine (FP.out w2 B2.out).mono ?_
  rintro e w2b ⟨B, rfl, hB, hb2⟩
  have B2b := Lib.hid (B2.out.trans (hb2.mono B2.out.size))
  have X2b := Lib.hid (X2.out.next hb2)
  have HFL := Lib.hid hB
  clear hb2 hB
  cases B with
  | false =>
    go_wp2_with fail
    go_ret
    exact ⟨rfl, by first | exact B2b.out | (rw [HB.out]; exact B2b.out)⟩
  | true =>
  have HFM : Hid (FewL l) := HFL.out rfl
  clear HFL
  obtain ⟨x0, x1, x2, x3, x4, x5, x6, x7⟩ := FC.out _ X2b.out
  rw [HL.out] at x7
  go_wp2_with fail
  refine (FA.out w2b B2b.out).mono ?_
  rintro e w3 ⟨rfl, hb⟩
  have B3 : Hid (Below w.heap.size w w3) := B2b.out.trans (((Below.refl _ _).alloc (Nat.le_refl _) _).trans (hb.mono (by simp)) |>.mono B2b.out.size)
  have X3 : Hid (FilAt w3 b 0 x) := (X2b.out.next ((Below.refl _ _).alloc (Nat.le_refl _) _)).next hb
  clear hb x0 x1 x2 x3 x4 x5 x6 x7
  cases F with
  | false =>
    go_wp2_with fail
    go_ret
    exact ⟨rfl, by first | exact B3.out | (rw [HB.out]; exact B3.out)⟩
  | true =>
  have FW := Lib.hid (fewF_iff.1 HF.out.symm)
  by_cases h1 : d < 0
  · have e1 : decide (d < 0) = true := decide_eq_true h1
    clear h1
    go_wp2_with fail
    go_ret
    exact ⟨rfl, by first | exact B3.out | (rw [HB.out]; exact B3.out)⟩
  have e1 : decide (d < 0) = false := decide_eq_false h1
  by_cases h2 : 1048575 < d
  · have e2 : decide (1048575 < d) = true := decide_eq_true h2
    clear h1 h2
    go_wp2_with fail
    go_ret
    exact ⟨rfl, by first | exact B3.out | (rw [HB.out]; exact B3.out)⟩
  have e2 : decide (1048575 < d) = false := decide_eq_false h2
  have hw1 : IntKind.i64.wrap m = m := IntWalk.i64_in _ (by omega)
  have hw2 : IntKind.i64.wrap (d + m) = d' := by rw [HD.out]; exact IntWalk.i64_in _ (by omega)
  clear h1 h2
  have FC8 : Hid (∀ w2 : World, FilAt w2 b 0 x → (w2.cell? ⟨b, 0, none⟩ = some (.int .i64 x.id) ∧ w2.cell? ⟨b, 1, none⟩ = some (.int .i64 x.of) ∧ w2.cell? ⟨b, 2, none⟩ = some (.int .i64 x.op) ∧ w2.cell? ⟨b, 3, none⟩ = some (.int .i64 x.cl) ∧ w2.cell? ⟨b, 4, none⟩ = some (.string x.c) ∧ w2.cell? ⟨b, 5, none⟩ = some (.string x.t) ∧ w2.cell? ⟨b, 6, none⟩ = some (.int .i64 x.pt) ∧ w2.cell? ⟨b, 7, none⟩ = some (.slice x.np n x.nc))) := fun w2 h => by
    have := FC.out w2 h
    rw [HL.out] at this
    exact this
  obtain ⟨x0, x1, x2, x3, x4, x5, x6, x7⟩ := FC8.out _ X3.out
  have T4 := Lib.hid (CA.out w3 B3.out HFM.out FW.out.2.2.1)
  clear CA
  go_wp2_with fail
  refine T4.out.mono ?_
  clear T4
  rintro e w4 ⟨rfl, hb⟩
  have B4 := Lib.hid (B3.out.trans (hb.mono B3.out.size))
  have X4 := Lib.hid (X3.out.next hb)
  clear hb x0 x1 x2 x3 x4 x5 x6 x7
  rcases HSq.out with ⟨rfl, rfl, _, _⟩ | ⟨rfl, rfl, _, _⟩ | ⟨rfl, rfl, rfl, rfl⟩
  · clear HSq HSq2 CB
    go_wp2_with fail
    go_ret
    exact ⟨rfl, by first | exact B4.out | (rw [HB.out]; exact B4.out)⟩
  · clear HSq HSq2 CB
    go_wp2_with fail
    go_ret
    exact ⟨rfl, by first | exact B4.out | (rw [HB.out]; exact B4.out)⟩
  clear HSq
  obtain ⟨i, j, px, py, hi0, hj0, hi1, hj1, hij, hjl, hpx, hpy, hsx, hsy, hRw, hsame⟩ := fol_mov HI.out HR.out
  have HM2 := Lib.hid (fol_mov2 HI.out HR.out HR2.out HLE.out)
  rw [hj0] at HM2
  have KA := Lib.hid (fun w2 h => AA.out d w2 h HFM.out)
  have KB := Lib.hid (fun w2 h => AA.out x.op w2 h HFM.out)
  have KC := Lib.hid (fun w2 h => AA.out d' w2 h HFM.out)
  rw [if_pos rfl, hj1] at KA
  rw [if_pos rfl, hi1] at KB
  rw [if_pos rfl] at KC
  change Hid (∀ w2 (h : Below w.heap.size w w2), Calls Tryz.prog 11 #[.slice p N cap, .int .i64 d] w2 fun e w' => e = .returned (.int .i64 (j : Int)) ∧ Below w2.heap.size w2 w') at KA
  change Hid (∀ w2 (h : Below w.heap.size w w2), Calls Tryz.prog 11 #[.slice p N cap, .int .i64 x.op] w2 fun e w' => e = .returned (.int .i64 (i : Int)) ∧ Below w2.heap.size w2 w') at KB
  rw [HNl.out] at hjl
  have n21 : N ≤ 21 := by have := HFM.out.1; have := HNl.out; omega
  have HPY := Lib.hid hpy; have HSY := Lib.hid hsy; have HSM := Lib.hid hsame
  have S0 := Lib.hid (FC8.out _ X4.out).2.2.1
  have S00 := Lib.hid (FC8.out _ X4.out.drew).2.2.1
  obtain ⟨x0, x1, x2, x3, x4, x5, x6, x7⟩ := FC8.out _ X4.out
  clear hi0 hpx hsx hRw hj0 hi1 hj1 hpy hsy hsame AA x0 x1 x3 x4 x5 x6 x7
  have f1 : decide ((j : Int) < 0) = false := by simp
  have f2 : decide ((i : Int) < 0) = false := by simp
  have f3 : decide ((N : Int) ≤ (j : Int)) = false := by simp; omega
  have f3' : decide (N ≤ j) = false := by simp; omega
  have f4 : decide ((j : Int) < (i : Int)) = false := by simp; omega
  have f4' : decide (j < i) = false := by simp; omega
  go_wp2_with fail
  go_region_held3 (fun v => v.cell? ⟨b, 2, none⟩ = some (.int .i64 x.op)) (first | with_reducible exact S00.out | with_reducible exact S0.out | with_reducible assumption | exact S0.out | assumption)
    (first
      | (go_at_call 11; (with_reducible refine (KA.out _ ?_).mono ?_); (first | exact ZB.out | exact below_drewN B4.out 1); rintro e wp ⟨rfl, hbp⟩
         have YA : Hid (FilAt wp b 0 x) := by first | exact FilAt.next YB.out hbp | exact FilAt.next X4.out.drew hbp
         have ZA : Hid (Below w.heap.size w wp) := by first | exact ZB.out.trans (hbp.mono ZB.out.size) | exact (below_drewN B4.out 1).trans (hbp.mono B4.out.size)
         have hsA := (FC8.out wp YA.out).2.2.1)
      | (go_at_call 11; (with_reducible refine (KB.out _ ?_).mono ?_); (first | exact ZA.out | exact below_drewN B4.out 1); rintro e wq ⟨rfl, hbq⟩
         have YB : Hid (FilAt wq b 0 x) := by first | exact FilAt.next YA.out hbq | exact FilAt.next X4.out.drew hbq
         have ZB : Hid (Below w.heap.size w wq) := by first | exact ZA.out.trans (hbq.mono ZA.out.size) | exact (below_drewN B4.out 1).trans (hbq.mono B4.out.size)
         have hsB := (FC8.out wq YB.out).2.2.1))
  obtain ⟨blk, off, hnp, hpc, hok⟩ := (L0.out.next ZB.out).get HPY.out
  subst hnp
  have y0 := hpc.1; have y1 := hpc.2.1; have y2 := hpc.2.2.1; have y3 := hpc.2.2.2.1; have y4 := hpc.2.2.2.2
  have zb := hpc.lt
  have hfp := HFM.out.2 py (List.mem_of_getElem? HPY.out)
  have hS100 : Hid (S.size ≤ 100) := by
    obtain ⟨z, hz, hzs⟩ := has_iff.1 HSY.out
    rw [← hzs]
    exact (hfp.2.2.1 z hz).1
  have HA := Lib.hid (Has_any py S wq hok (by have := hfp.1; omega))
  rw [HSY.out] at HA
  unfold Pln.val at HA
  clear hpc hok hfp KA KB
  have stp : ∀ B : Bool, B = true → True := fun _ _ => trivial
  clear stp
  have NEXT : Hid (∀ w6 : World, Below wq.heap.size wq w6 → FilAt w6 b 0 x ∧ Below w.heap.size w w6) := fun w6 h => ⟨YB.out.next h, ZB.out.trans (h.mono ZB.out.size)⟩
  by_cases hji : i = j
  · have hss := HSM.out hji
    subst hji
    subst hss
    clear HSM hij f4 f4'
    go_wp2_with fail
    refine HA.out.mono ?_
    rintro e w6 ⟨rfl, hb6⟩
    obtain ⟨hx6, hb6'⟩ := NEXT.out w6 hb6
    have X6 := Lib.hid hx6; have B6 := Lib.hid hb6'
    clear hb6 hx6 hb6'
    obtain ⟨x0, x1, x2, x3, x4, x5, x6, x7⟩ := FC8.out _ X6.out
    clear HA y0 y1 y2 y3 y4
    rcases HSq2.out with ⟨_, _, h, _⟩ | ⟨rfl, rfl, _, h7⟩ | ⟨rfl, rfl, _, h0⟩
    · exact absurd rfl h
    · have hk : l.findIdx? (on d') = none := by
        rcases HM2.out with ⟨_, h⟩ | ⟨h, _⟩
        · exact h
        · omega
      rw [hk] at KC
      change Hid (∀ w2 (h : Below w.heap.size w w2), Calls Tryz.prog 11 #[.slice (some ⟨blk, off, none⟩) N cap, .int .i64 d'] w2 fun e w' => e = .returned (.int .i64 (-1)) ∧ Below w2.heap.size w2 w') at KC
      have T7 := Lib.hid (CB.out w6 B6.out HFM.out FW.out.2.2.1)
      clear CB HM2 HSq2 hk h7
      go_wp2_with fail
      refine T7.out.mono ?_
      rintro e w7 ⟨rfl, hb⟩
      have B7 := Lib.hid (B6.out.trans (hb.mono B6.out.size))
      clear hb x0 x1 x2 x3 x4 x5 x6 x7 T7
      have T8 := Lib.hid (KC.out w7 B7.out)
      go_wp2_with fail
      refine T8.out.mono ?_
      rintro e w8 ⟨rfl, hb⟩
      have B8 := Lib.hid (B7.out.trans (hb.mono B7.out.size))
      clear hb T8
      go_wp2_with fail
      go_ret
      exact ⟨rfl, by first | exact B8.out | (rw [HB.out]; exact B8.out)⟩
    · obtain ⟨k, hk, hkl, hF⟩ : ∃ k : Nat, l.findIdx? (on d') = some k ∧ k < N ∧ FolIs l 0 ((i : Int) + 1) ((k : Int) + 1) x.c S2 0 := by
        rcases HM2.out with ⟨h, _⟩ | ⟨_, ⟨k, h1, h2⟩, h3⟩
        · omega
        · refine ⟨k, h1, by have := HNl.out; omega, ?_⟩
          rwa [show vno l d' = (k : Int) + 1 by unfold vno; rw [h1]; rfl] at h3
      rw [hk] at KC
      change Hid (∀ w2 (h : Below w.heap.size w w2), Calls Tryz.prog 11 #[.slice (some ⟨blk, off, none⟩) N cap, .int .i64 d'] w2 fun e w' => e = .returned (.int .i64 (k : Int)) ∧ Below w2.heap.size w2 w') at KC
      have hv1 : IntKind.i64.wrap ((i : Int) + 1) = (i : Int) + 1 := IntWalk.i64_in _ (by omega)
      have hv2 : IntKind.i64.wrap ((k : Int) + 1) = (k : Int) + 1 := IntWalk.i64_in _ (by omega)
      have T7 := Lib.hid (CB.out w6 B6.out HFM.out FW.out.2.2.1)
      have FK := Lib.hid (fun w2 h => FO.out ((i : Int) + 1) ((k : Int) + 1) x.c w2 h HFM.out (by have := hS100.out; omega) S2 0 hF)
      clear CB HM2 HSq2 hk h0 hF FO
      go_wp2_with fail
      refine T7.out.mono ?_
      rintro e w7 ⟨rfl, hb⟩
      have B7 := Lib.hid (B6.out.trans (hb.mono B6.out.size))
      clear hb x0 x1 x2 x3 x4 x5 x6 x7 T7
      have T8 := Lib.hid (KC.out w7 B7.out)
      go_wp2_with fail
      refine T8.out.mono ?_
      rintro e w8 ⟨rfl, hb⟩
      have B8 := Lib.hid (B7.out.trans (hb.mono B7.out.size))
      have T9 := Lib.hid (FK.out w8 B8.out)
      clear hb T8
      go_wp2_with fail
      refine T9.out.mono ?_
      rintro e w9 ⟨rfl, hb⟩
      have B9 := Lib.hid (B8.out.trans (hb.mono B8.out.size))
      clear hb T9
      go_wp2_with fail
      go_ret
      exact ⟨rfl, by first | exact B9.out | (rw [HB.out]; exact B9.out)⟩
  · have f5 : ((j : Int) == (i : Int)) = false := by simp; omega
    have f5' : decide ((j : Int) = (i : Int)) = false := by simp; omega
    have f5'' : decide (j = i) = false := by simp; omega
    clear HSM hji
    go_wp2_with fail
    refine HA.out.mono ?_
    rintro e w6 ⟨rfl, hb6⟩
    obtain ⟨hx6, hb6'⟩ := NEXT.out w6 hb6
    have X6 := Lib.hid hx6; have B6 := Lib.hid hb6'
    clear hb6 hx6 hb6'
    obtain ⟨x0, x1, x2, x3, x4, x5, x6, x7⟩ := FC8.out _ X6.out
    clear HA y0 y1 y2 y3 y4
    rcases HSq2.out with ⟨_, _, h, _⟩ | ⟨rfl, rfl, _, h7⟩ | ⟨rfl, rfl, _, h0⟩
    · exact absurd rfl h
    · have hk : l.findIdx? (on d') = none := by
        rcases HM2.out with ⟨_, h⟩ | ⟨h, _⟩
        · exact h
        · omega
      rw [hk] at KC
      change Hid (∀ w2 (h : Below w.heap.size w w2), Calls Tryz.prog 11 #[.slice (some ⟨blk, off, none⟩) N cap, .int .i64 d'] w2 fun e w' => e = .returned (.int .i64 (-1)) ∧ Below w2.heap.size w2 w') at KC
      have T7 := Lib.hid (CB.out w6 B6.out HFM.out FW.out.2.2.1)
      clear CB HM2 HSq2 hk h7
      go_wp2_with fail
      refine T7.out.mono ?_
      rintro e w7 ⟨rfl, hb⟩
      have B7 := Lib.hid (B6.out.trans (hb.mono B6.out.size))
      clear hb x0 x1 x2 x3 x4 x5 x6 x7 T7
      have T8 := Lib.hid (KC.out w7 B7.out)
      go_wp2_with fail
      refine T8.out.mono ?_
      rintro e w8 ⟨rfl, hb⟩
      have B8 := Lib.hid (B7.out.trans (hb.mono B7.out.size))
      clear hb T8
      go_wp2_with fail
      go_ret
      exact ⟨rfl, by first | exact B8.out | (rw [HB.out]; exact B8.out)⟩
    · obtain ⟨k, hk, hkl, hF⟩ : ∃ k : Nat, l.findIdx? (on d') = some k ∧ k < N ∧ FolIs l 0 ((j : Int) + 1) ((k : Int) + 1) S S2 0 := by
        rcases HM2.out with ⟨h, _⟩ | ⟨_, ⟨k, h1, h2⟩, h3⟩
        · omega
        · refine ⟨k, h1, by have := HNl.out; omega, ?_⟩
          rwa [show vno l d' = (k : Int) + 1 by unfold vno; rw [h1]; rfl] at h3
      rw [hk] at KC
      change Hid (∀ w2 (h : Below w.heap.size w w2), Calls Tryz.prog 11 #[.slice (some ⟨blk, off, none⟩) N cap, .int .i64 d'] w2 fun e w' => e = .returned (.int .i64 (k : Int)) ∧ Below w2.heap.size w2 w') at KC
      have hv1 : IntKind.i64.wrap ((j : Int) + 1) = (j : Int) + 1 := IntWalk.i64_in _ (by omega)
      have hv2 : IntKind.i64.wrap ((k : Int) + 1) = (k : Int) + 1 := IntWalk.i64_in _ (by omega)
      have T7 := Lib.hid (CB.out w6 B6.out HFM.out FW.out.2.2.1)
      have FK := Lib.hid (fun w2 h => FO.out ((j : Int) + 1) ((k : Int) + 1) S w2 h HFM.out (by have := hS100.out; omega) S2 0 hF)
      clear CB HM2 HSq2 hk h0 hF FO
      go_wp2_with fail
      refine T7.out.mono ?_
      rintro e w7 ⟨rfl, hb⟩
      have B7 := Lib.hid (B6.out.trans (hb.mono B6.out.size))
      clear hb x0 x1 x2 x3 x4 x5 x6 x7 T7
      have T8 := Lib.hid (KC.out w7 B7.out)
      go_wp2_with fail
      refine T8.out.mono ?_
      rintro e w8 ⟨rfl, hb⟩
      have B8 := Lib.hid (B7.out.trans (hb.mono B7.out.size))
      have T9 := Lib.hid (FK.out w8 B8.out)
      clear hb T8
      go_wp2_with fail
      refine T9.out.mono ?_
      rintro e w9 ⟨rfl, hb⟩
      have B9 := Lib.hid (B8.out.trans (hb.mono B8.out.size))
      clear hb T9
      go_wp2_with fail
      go_ret
      exact ⟨rfl, by first | exact B9.out | (rw [HB.out]; exact B9.out)⟩

set_option maxRecDepth 100000 in
set_option maxHeartbeats 8000000 in
theorem moves_lifted (os : Os) (started : os.Started) (H : Type) (enc : TypeId × Value → H) :
    ReturnsInHanded {} Tryz.checked os 6 .any (fun w args => (Rows.fileMovesSpec.pre enc Tryz.prog Tryz.f6 [] false w args ∧ laidMetH Tryz.prog laid7 w) ∧ sizedMet enc Tryz.prog Tryz.f6 (OpenSpec.ofChange Rows.fileMovesSpec) false w args)
      (Rows.fileMovesSpec.post enc Tryz.prog Tryz.f6 false true false false) := by
  refine wrap (s := Rows.fileMovesSpec) started (by kernel_rfl) Tryz.func6
    (ChangeSpec.witness_shaped (enc := enc) (C := Tryz.checked) (os := os) (X := fun w _ => laidMetH Tryz.prog laid7 w) false (World.laidAll Tryz.prog os laid7) #[.slice none 0 0, .agg #[.int .i64 0, .int .i64 0, .int .i64 0, .int .i64 0, .string ⟨#[]⟩, .string ⟨#[]⟩, .int .i64 0, .slice none 0 0], .int .i64 0, .int .u8 0] 8 (World.laidAll_os _ _ _)
      (World.shaped_of_ZipB (by kernel_rfl) (by kernel_rfl)) (by kernel_rfl) (by kernel_rfl) (by kernel_rfl) (laid_met os _)) ?_
  intro W base args ds gs before hval0 hW hE
  have hval : ∀ (j : Nat) t v, Tryz.f6.params[j]? = some t → args[j]? = some v → Value.okWide Tryz.prog W .any base t v := hval0
  have hW' := hW
  obtain ⟨p, q, hA0, hV, rfl, hfz, hnd⟩ := hW
  have hA : DataW.TrodAll enc Tryz.prog W 0 (fun _ => true) true Tryz.f6.params.toList args.toList ds p := hA0
  rw [Tryz.params6] at hA hval
  obtain ⟨v0, v1, v2, v3, d0, d1, d2, d3, p0, p1, p2, p3, rfl, rfl, rfl, h0, h1, h2, h3⟩ := trodAll_four hA
  obtain ⟨rfl, rfl⟩ := trodVars_none hV
  obtain ⟨a0, c0, l0, rfl, g0, k0⟩ := open_plns (hval 0 22 v0 rfl rfl) h0
  obtain ⟨x1, rfl, g1⟩ := open_fil (hval 1 39 v1 rfl rfl) h1
  obtain ⟨i2, rfl, rfl, rfl, w2⟩ := Go.ChangeShapes.open_int Tryz.underlying3 (hval 2 3 v2 rfl rfl) h2
  obtain ⟨i3, rfl, rfl, rfl, w3⟩ := Go.ChangeShapes.open_int Tryz.underlying5 (hval 3 5 v3 rfl rfl) h3
  refine (moves_law a0 c0 l0 x1 i2 i3 W hE g0 k0 g1 (u8_range w3).1 (u8_range w3).2).mono fun e W' ⟨he, hb⟩ => ?_
  subst he
  exact ⟨_, rfl, post_true rfl rfl (by kernel_rfl) hW' rfl hb⟩

theorem moves_said : Rows.FileMovesSaid :=
  OpenClaim.holds_of_wide 6 Tryz.f6 rfl rfl rfl rfl rfl rfl rfl ⟨rfl, rfl, rfl, rfl, rfl⟩ rfl rfl rfl rfl rfl (by kernel_rfl) Tryz.func6 (by kernel_rfl)
    (of_decide_eq_true (by kernel_rfl)) (by unfold Func.isWrapper; first | (rw [if_pos (by decide +kernel)]; kernel_rfl) | (rw [if_neg (by decide +kernel)]; exact ⟨rfl, rfl⟩))
    (fun os started H enc _ => moves_lifted os started H enc)

theorem moves_holds : Rows.FileMovesCardSaid :=
  Claim7.holds_tied_plain_at .later [] [.data, .data, .data, .data, .sentinel, .sentinel, .pinned] true (true, "bf64569d5dd1fb788bb5076bf69eeae4603c827ac794faed475749ebcaeb6dc5") true
    moves_said (fun _ h => by cases h) (by kernel_rfl) (fun _ h => by cases h) fileMoves_row_tie rfl ⟨rfl, rfl⟩ (by kernel_rfl) rfl
    (fun f fn hf hfn => by
      obtain rfl : f = 6 := Option.some.inj ((show Tryz.prog.funcNamed "archivum/archivumlaw08.FileMoves" = some 6 by kernel_rfl).symm.trans hf) |>.symm
      obtain rfl : fn = Tryz.f6 := (Option.some.inj (Tryz.func6.symm.trans hfn)).symm
      exact ⟨by kernel_rfl, fun j t ht => by
        rw [Tryz.params6] at ht
        have hm : t ∈ [22, 39, 3, 5] := by simpa using Array.mem_of_getElem? ht
        have hall : ([22, 39, 3, 5].all fun u => !Tryz.prog.wantsStandIn u) = true := by kernel_rfl
        exact (show Tryz.prog.wantsStandIn t = false by simpa using List.all_eq_true.1 hall t hm)⟩)
    (by kernel_rfl)
#print axioms moves_holds

end Go.Proofs.YtkcamfaecpgfmaaGreatDoor
