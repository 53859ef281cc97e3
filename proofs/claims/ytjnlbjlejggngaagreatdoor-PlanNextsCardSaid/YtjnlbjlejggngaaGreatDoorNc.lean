/-
  isChild, Children of the code and of the reference; SameStrings. No statement of the seat is proved here.
-/
import Derived.Test.YtjnlbjlejggngaaGreatDoorNr
namespace Go.Proofs.YtjnlbjlejggngaaGreatDoor
open Go Go.RowKit

/-- The parent of a class, or the empty string. -/
def pn (c : ByteArray) : ByteArray := (par c).getD emp
theorem Parent_pn (c : ByteArray) (w : World) (hE : Env w) (hc : c.size ≤ 1000000000000) :
    Calls Tryz.prog 70 #[.string c] w fun e w' => ∃ B, e = .returned (.tuple #[.string (pn c), .bool B]) ∧ Below w.heap.size w w' := by
  refine (Parent_any c w hE hc).mono ?_
  rintro e w' ⟨rfl, hb⟩
  unfold pn optV
  cases par c with
  | none => exact ⟨false, rfl, hb⟩
  | some q => exact ⟨true, rfl, hb⟩
theorem ParentR_pn (c : ByteArray) (w : World) (hE : Env w) (hc : c.size ≤ 1000000000000) :
    Calls Tryz.prog 42 #[.string c] w fun e w' => ∃ B, e = .returned (.tuple #[.string (pn c), .bool B]) ∧ Below w.heap.size w w' := by
  refine (ParentR_any c w hE hc).mono ?_
  rintro e w' ⟨rfl, hb⟩
  unfold pn optV
  cases par c with
  | none => exact ⟨false, rfl, hb⟩
  | some q => exact ⟨true, rfl, hb⟩
theorem Parse_e (s : ByteArray) (w : World) (hE : Env w) (hs : s.size ≤ 1000000000000) :
    Calls Tryz.prog 72 #[.string s] w fun e w' => ∃ v, e = .returned (.tuple #[v, .int .i64 (if isC s then 0 else 3)]) ∧ Below w.heap.size w w' := by
  cases h : isC s with
  | true => exact Parse_yes' s w hE hs h
  | false => exact Parse_no' s w hE hs h
theorem GoodR_any (s : ByteArray) (w : World) (hE : Env w) (hs : s.size ≤ 1000000000000) :
    Calls Tryz.prog 47 #[.string s] w fun e w' => e = .returned (.bool (isC s)) ∧ Below w.heap.size w w' := by
  unfold isC
  rcases refParse_ans s hs with ⟨xs, h1, h2⟩ | ⟨h1, h2⟩
  · rw [codeN_some.2 h1]
    exact Good_any s w hE true 0 xs _ rfl h2
  · rw [codeN_none.2 h1]
    exact Good_any s w hE false 3 [] _ rfl h2

/-- A class that stands directly below another one. -/
def chi (s : ByteArray) (y : Pr) : Bool := isC y.c && decide (pn y.c = s)

set_option maxRecDepth 100000 in
set_option maxHeartbeats 4000000 in
theorem chi46_any (c s : ByteArray) (w : World) (hE : Env w) (hc : c.size ≤ 1000000000000) :
    Calls Tryz.prog 46 #[.string c, .string s] w fun e w' => e = .returned (.bool (isC c && decide (pn c = s))) ∧ Below w.heap.size w w' := by
  have C1 := Lib.hid (Parent_pn c w hE hc)
  have C2 := Lib.hid (fun w2 (h : Below w.heap.size w w2) => Parse_e c w2 (hE.below h) hc)
  obtain ⟨q, hq⟩ : ∃ q, q = pn c := ⟨_, rfl⟩
  obtain ⟨I, hI⟩ : ∃ I, I = isC c := ⟨_, rfl⟩
  rw [← hq] at C1 ⊢
  rw [← hI] at C2 ⊢
  obtain ⟨D, hD⟩ : ∃ D, D = decide (q = s) := ⟨_, rfl⟩
  have f : (q.toList == s.toList) = D := by
    rw [hD]
    by_cases h : q = s
    · rw [ba_eq' h, decide_eq_true h]
    · rw [ba_ne' h, decide_eq_false h]
  rw [← hD]
  clear hE hc hq hI hD
  go_enter Tryz.func46, Tryz.ntmps46
  go_wp2_with fail
  refine C1.out.mono ?_
  rintro e w2 ⟨B, rfl, hb⟩
  have B2 := Lib.hid hb
  clear hb
  go_wp2_with fail
  refine (C2.out _ B2.out).mono ?_
  rintro e w3 ⟨v, rfl, hb⟩
  have B3 := Lib.hid (B2.out.trans (hb.mono B2.out.size))
  clear hb
  cases I <;> {
    go_wp2_with fail
    go_ret
    exact ⟨by first | rfl | simp, B3.out⟩ }

set_option maxHeartbeats 2000000 in
theorem chi45_any (y : Pr) (b : Nat) (s : ByteArray) (w : World) (hE : Env w) (hc : y.c.size ≤ 1000000000000) (h : w.cell? ⟨b, 0, none⟩ = some (.string s)) :
    Calls Tryz.prog 45 #[.string y.c, .pointer (some ⟨b, 0, none⟩)] w fun e w' => e = .returned (.bool (chi s y)) ∧ Below w.heap.size w w' := by
  have C1 := Lib.hid (chi46_any y.c s w hE hc)
  have z := World.block_lt_of_cell? w _ h
  obtain ⟨R, hR⟩ : ∃ R, R = chi s y := ⟨_, rfl⟩
  have hR' : (isC y.c && decide (pn y.c = s)) = R := by rw [hR]; rfl
  rw [hR'] at C1
  rw [← hR]
  clear hE hc hR hR'
  go_enter Tryz.func45, Tryz.ntmps45
  go_wp2_with fail
  refine C1.out.mono ?_
  rintro e w2 ⟨rfl, hb⟩
  go_wp2_with fail
  go_ret
  exact ⟨rfl, hb⟩

set_option maxRecDepth 100000 in
set_option maxHeartbeats 8000000 in
theorem codesOf45 (x : Pln) (b1 : Nat) (P : Pr → Bool) (Inv : World → Prop) (hI : ∀ w w' : World, Inv w → Below w.heap.size w w' → Inv w')
    (hC : ∀ y ∈ x.cs, ∀ w : World, Inv w → Calls Tryz.prog 45 #[.string y.c, .pointer (some ⟨b1, 0, none⟩)] w fun e w' => e = .returned (.bool (P y)) ∧ Below w.heap.size w w')
    (w : World) (hP : PrsAt w x.cp x.cs) (h0 : Inv w) (hn : x.cs.length ≤ 1000000000) :
    Calls Tryz.prog 44 #[x.val, .func (.func 45) #[] #[.pointer (some ⟨b1, 0, none⟩)]] w fun e w' => ∃ v, e = .returned v ∧ w'.ownsRow w.heap.size 9 1 v (x.cs.filter P).length (strC (x.cs.filter P)) ∧ Below w.heap.size w w' := by
  obtain ⟨i0, hi, hz0, hz1, hz2⟩ := info_parts info9
  obtain ⟨n, hl⟩ : ∃ n, x.cs.length = n := ⟨_, rfl⟩
  rw [hl] at hn
  obtain ⟨W1, hW1⟩ : ∃ W1, W1 = w.alloc (.cells #[.int .i64 x.v, .int .i64 x.f, .int .i64 x.u, .slice x.cp x.cs.length x.cc, .slice x.mp x.ms.length x.mc] 27) := ⟨_, rfl⟩
  have K1 : Hid (Below w.heap.size w W1) := by rw [hW1]; exact (Below.refl _ _).alloc (Nat.le_refl _) _
  have d3 : W1.cell? ⟨w.heap.size, 3, none⟩ = some (.slice x.cp n x.cc) := by
    rw [hW1, hl]
    exact World.cell?_alloc_new w _ 27 3
  have HP := Lib.hid (hP.next K1.out); have HC := Lib.hid hC; have HI := Lib.hid hI; have H0 := Lib.hid (hI _ _ h0 K1.out); have HL := Lib.hid hl
  unfold Pln.val
  rw [hl] at hW1 ⊢
  have zW : w.heap.size ≤ W1.heap.size := K1.out.size
  clear hP hC hI h0 hl
  go_enter Tryz.func44, Tryz.ntmps44
  go_wp2_with fail
  rw [← hW1]
  clear hW1
  go_wp2_with fail
  go_loopw [5, 11] (fun v i wr => ∃ k : Nat, k ≤ n ∧ i = .int .i64 k ∧ wr.ownsRow W1.heap.size 9 1 v ((x.cs.take k).filter P).length (strC ((x.cs.take k).filter P)) ∧ Below W1.heap.size W1 wr) (fun _ i _ => n - (intOf i).toNat)
  case atStart => exact ⟨0, Nat.zero_le _, rfl, World.ownsRow_nil _ _ _ _, Below.refl _ _⟩
  case round =>
    obtain ⟨k, hk, rfl, hrow, hb⟩ := hrel
    have NB := Lib.hid hb
    have RW := Lib.hid hrow
    by_cases hkn : k < n
    · obtain ⟨y, hy⟩ : ∃ y, x.cs[k]? = some y := ⟨_, List.getElem?_eq_getElem (by rw [HL.out]; exact hkn)⟩
      obtain ⟨blk, off, hnp, hpc⟩ := HP.out.get hy
      have PW := Lib.hid (hpc.next hb)
      have C1 := Lib.hid (HC.out y (List.mem_of_getElem? hy))
      have IW := Lib.hid (HI.out _ _ H0.out hb)
      have HT : Hid (x.cs.take (k + 1) = x.cs.take k ++ [y]) := by
        obtain ⟨h1, h2⟩ := List.getElem?_eq_some_iff.1 hy
        show _ = _
        rw [List.take_succ_eq_append_getElem h1, h2]
      have HLen : ((x.cs.take k).filter P).length ≤ k := by
        have := List.length_filter_le P (x.cs.take k)
        rw [List.length_take] at this
        omega
      have hkd : decide ((k : Int) < (n : Int)) = true := by simp; omega
      have q0 := PW.out.1; have q1 := PW.out.2
      have zb := PW.out.lt
      obtain ⟨Q, hQ⟩ : ∃ Q, Q = P y := ⟨_, rfl⟩
      rw [← hQ] at C1
      have HQ := Lib.hid hQ
      clear hb hrow hpc hy hQ
      rw [hnp]
      go_wp2_with fail
      have IV := Lib.hid (HI.out wr (wr.alloc (.cells #[.string y.c, .string y.t] 44)) IW.out ((Below.refl _ _).alloc (Nat.le_refl _) _))
      refine (C1.out _ IV.out).mono ?_
      rintro e w2 ⟨rfl, hb⟩
      have YB := Lib.hid ((pr_new wr y 44).next hb)
      have RW2 := Lib.hid ((RW.out.alloc (.cells #[.string y.c, .string y.t] 44)).kept (row := none) ⟨hb.os, hb.tape, hb.output, hb.size, fun k hk _ => hb.block k hk⟩ (by cases u5.ownBlock <;> simp))
      have B2 : Hid (Below W1.heap.size W1 w2) := NB.out.trans ((((Below.refl _ _).alloc (Nat.le_refl _) _).trans (hb.mono (by simp))).mono NB.out.size)
      have z2 := YB.out.lt
      clear hb q0 q1
      cases Q with
      | false =>
        have HF : Hid ((x.cs.take (k + 1)).filter P = (x.cs.take k).filter P) := by
          show _ = _
          rw [HT.out, List.filter_append, List.filter_cons_of_neg (by rw [← HQ.out]; simp)]
          simp
        go_wp2_with fail
        go_roundw
        case rel => exact ⟨k + 1, hkn, by go_num, by rw [HF.out]; exact RW2.out, B2.out⟩
        case measure => simp [intOf]; omega
      | true =>
        have HF : Hid ((x.cs.take (k + 1)).filter P = (x.cs.take k).filter P ++ [y]) := by
          show _ = _
          rw [HT.out, List.filter_append, List.filter_cons_of_pos (by rw [← HQ.out])]
          simp
        have q0 := YB.out.1; have q1 := YB.out.2
        have zB := B2.out.size
        go_wp2_with (at_builtin; refine wpList_append_own _ rfl _ _ 34 rfl W1.heap.size 9 i0 _ 1 16 Tryz.underlying34 hi hz0 hz1 hz2 rfl (by decide) _ _ _ rfl (RW2.out.alloc _) ⟨w2.heap.size, 0, none⟩ 1 1 [.string y.c] rfl rfl (str_news w2 y.c 9) (str_one y.c) (by unfold maxLen; omega) (by omega) (by simp; omega) ?_; intro v' w3 hown' hgrow _)
        have B3 : Hid (Below W1.heap.size W1 w3) := (B2.out.alloc zB _).grown hgrow (by simp; omega) (fun k e => (RW2.out.lt k e).1)
        have R3 : Hid (w3.ownsRow W1.heap.size 9 1 v' ((x.cs.take (k + 1)).filter P).length (strC ((x.cs.take (k + 1)).filter P))) := by
          show w3.ownsRow _ _ _ _ _ _
          rw [HF.out, strC_snoc, List.length_append]
          exact hown'
        clear hown' hgrow
        go_wp2_with fail
        go_roundw
        case rel => exact ⟨k + 1, hkn, by go_num, R3.out, B3.out⟩
        case measure => simp [intOf]; omega
    · have hkd : decide ((k : Int) < (n : Int)) = false := by simp; omega
      have hkn2 : k = n := by omega
      have R3 : Hid (wr.ownsRow w.heap.size 9 1 u5 (x.cs.filter P).length (strC (x.cs.filter P))) := by
        have := RW.out
        rw [hkn2, ← HL.out, List.take_length] at this
        exact Go.Joins.ownsRow_le this zW
      have B3 : Hid (Below w.heap.size w wr) := K1.out.trans (NB.out.mono zW)
      clear hb hrow hkn2
      go_wp2_with fail
      go_ret
      exact ⟨_, rfl, R3.out, B3.out⟩


set_option maxRecDepth 100000 in
set_option maxHeartbeats 4000000 in
theorem Children_any (x : Pln) (s : ByteArray) (w : World) (hE : Env w) (hP : PlnOk w x) (hn : x.cs.length ≤ 1000000000) (hz : Szs x.cs) :
    Calls Tryz.prog 15 #[x.val, .string s] w fun e w' => ∃ v, e = .returned v ∧ w'.ownsRow w.heap.size 9 1 v (x.cs.filter (chi s)).length (strC (x.cs.filter (chi s))) ∧ Below w.heap.size w w' := by
  obtain ⟨W1, hW1⟩ : ∃ W1, W1 = (w.alloc (.cells x.cells 27)).alloc (.cells #[.string s] 9) := ⟨_, rfl⟩
  obtain ⟨b, hb⟩ : ∃ b, b = w.heap.size := ⟨_, rfl⟩
  have B1 : Hid (Below w.heap.size w W1) := by rw [hW1]; exact ((Below.refl _ _).alloc (Nat.le_refl _) _).alloc (by simp) _
  have X1 : Hid (PlnAt W1 b 0 x) := by rw [hW1, hb]; exact (pln_new w x 27).next ((Below.refl _ _).alloc (Nat.le_refl _) _)
  have S1 : Hid (W1.cell? ⟨b + 1, 0, none⟩ = some (.string s)) := by rw [hW1, hb]; exact str_new _ _ _ _ (by simp)
  have C1 := Lib.hid (codesOf45 x (b + 1) (chi s) (fun w2 => Below W1.heap.size W1 w2) (fun _ _ h h' => h.trans (h'.mono h.size)) (fun y hy w2 h2 => chi45_any y (b + 1) s w2 (hE.below (B1.out.trans (h2.mono B1.out.size))) (hz y hy).1 (cell_next S1.out h2)) W1 (hP.1.next B1.out) (Below.refl _ _) hn)
  have x0 := X1.out.1; have x1 := X1.out.2.1; have x2 := X1.out.2.2.1; have x3 := X1.out.2.2.2.1; have x4 := X1.out.2.2.2.2
  unfold Pln.val at C1 ⊢
  unfold Pln.cells at hW1
  clear hE hP hn hz
  go_enter Tryz.func15, Tryz.ntmps15
  go_wp2_with fail
  rw [← hW1, ← hb]
  clear hW1 hb
  go_wp2_with fail
  refine C1.out.mono ?_
  rintro e w2 ⟨v, rfl, hr, hb⟩
  have R2 := Lib.hid (Go.Joins.ownsRow_le hr B1.out.size)
  have B2 := Lib.hid (B1.out.trans (hb.mono B1.out.size))
  clear hr hb
  go_wp2_with fail
  go_ret
  exact ⟨_, rfl, R2.out, B2.out⟩

set_option maxRecDepth 100000 in
set_option maxHeartbeats 8000000 in
theorem ChildrenR_any (x : Pln) (s : ByteArray) (w : World) (hE : Env w) (hP : PlnOk w x) (hn : x.cs.length ≤ 1000000000) (hz : Szs x.cs) :
    Calls Tryz.prog 16 #[x.val, .string s] w fun e w' => ∃ v, e = .returned v ∧ w'.ownsRow w.heap.size 9 1 v (x.cs.filter (chi s)).length (strC (x.cs.filter (chi s))) ∧ Below w.heap.size w w' := by
  obtain ⟨PP, hPP⟩ : ∃ P : Pr → Bool, P = chi s := ⟨_, rfl⟩
  rw [← hPP]
  have HPP := Lib.hid hPP
  obtain ⟨i0, hi, hz0, hz1, hz2⟩ := info_parts info9
  obtain ⟨n, hl⟩ : ∃ n, x.cs.length = n := ⟨_, rfl⟩
  rw [hl] at hn
  obtain ⟨W1, hW1⟩ : ∃ W1, W1 = w.alloc (.cells x.cells 27) := ⟨_, rfl⟩
  obtain ⟨b, hb0⟩ : ∃ b, b = w.heap.size := ⟨_, rfl⟩
  have K1 : Hid (Below w.heap.size w W1) := by rw [hW1]; exact (Below.refl _ _).alloc (Nat.le_refl _) _
  have X1 : Hid (PlnAt W1 b 0 x) := by rw [hW1, hb0]; exact pln_new w x 27
  have HP := Lib.hid (hP.1.next K1.out); have HL := Lib.hid hl
  have E1 := Lib.hid (hE.below K1.out); have HZ := Lib.hid hz
  have zW : w.heap.size ≤ W1.heap.size := K1.out.size
  have HBS : Hid (b + 1 = W1.heap.size) := by rw [hW1, hb0]; show _ = _; rw [World.size_alloc]
  have HC3 : Hid (∀ wr, Below W1.heap.size W1 wr → wr.cell? ⟨b, 3, none⟩ = some (.slice x.cp n x.cc)) := fun wr h => by
    have := (X1.out.next h).2.2.2.1
    rwa [HL.out] at this
  unfold Pln.val
  unfold Pln.cells at hW1
  rw [hl] at hW1 ⊢
  clear hP hl hPP hE hz
  go_enter Tryz.func16, Tryz.ntmps16
  go_wp2_with fail
  rw [← hW1, ← hb0]
  clear hW1 hb0
  have LT := Lib.hid (World.ownsRow_lit (base := W1.heap.size) (e := 9) (size := 1) W1 #[] 0 (Nat.le_refl _) (Nat.zero_le _) rfl)
  go_wp2_with fail
  go_loopw [5, 6] (fun v i wr => ∃ k : Nat, k ≤ n ∧ i = .int .i64 k ∧ wr.ownsRow W1.heap.size 9 1 v ((x.cs.take k).filter PP).length (strC ((x.cs.take k).filter PP)) ∧ Below W1.heap.size W1 wr) (fun _ i _ => n - (intOf i).toNat)
  case atStart => exact ⟨0, Nat.zero_le _, rfl, by rw [HBS.out]; exact LT.out, (Below.refl _ _).alloc (Nat.le_refl _) _⟩
  case round =>
    obtain ⟨k, hk, rfl, hrow, hb⟩ := hrel
    have NB := Lib.hid hb
    have RW := Lib.hid hrow
    have c3 := HC3.out wr hb
    by_cases hkn : k < n
    · obtain ⟨y, hy⟩ : ∃ y, x.cs[k]? = some y := ⟨_, List.getElem?_eq_getElem (by rw [HL.out]; exact hkn)⟩
      obtain ⟨blk, off, hnp, hpc⟩ := HP.out.get hy
      have PW := Lib.hid (hpc.next hb)
      have HT : Hid (x.cs.take (k + 1) = x.cs.take k ++ [y]) := by
        obtain ⟨h1, h2⟩ := List.getElem?_eq_some_iff.1 hy
        show _ = _
        rw [List.take_succ_eq_append_getElem h1, h2]
      have HLen : ((x.cs.take k).filter PP).length ≤ k := by
        have := List.length_filter_le PP (x.cs.take k)
        rw [List.length_take] at this
        omega
      have hzy := (HZ.out y (List.mem_of_getElem? hy)).1
      have C1 := Lib.hid (ParentR_pn y.c wr (E1.out.below hb) hzy)
      have C2 := Lib.hid (fun w2 (h : Below W1.heap.size W1 w2) => GoodR_any y.c w2 (E1.out.below h) hzy)
      obtain ⟨q, hq⟩ : ∃ q, q = pn y.c := ⟨_, rfl⟩
      obtain ⟨I, hI⟩ : ∃ I, I = isC y.c := ⟨_, rfl⟩
      rw [← hq] at C1
      rw [← hI] at C2
      have HCH : Hid (PP y = (I && decide (q = s))) := by show _ = _; rw [HPP.out, hq, hI]; rfl
      have hkd : decide ((k : Int) < (n : Int)) = true := by simp; omega
      have q0 := PW.out.1; have q1 := PW.out.2
      have zb := PW.out.lt
      rw [hnp] at c3
      clear hb hrow hpc hy hnp hq hI hzy
      go_wp2_with fail
      refine C1.out.mono ?_
      rintro e w2 ⟨B, rfl, hb⟩
      have B2 := Lib.hid (NB.out.trans (hb.mono NB.out.size))
      have R2 := Lib.hid (RW.out.kept (row := none) ⟨hb.os, hb.tape, hb.output, hb.size, fun k hk _ => hb.block k hk⟩ (by cases u5.ownBlock <;> simp))
      clear hb c3 q0 q1
      go_wp2_with fail
      refine (C2.out _ B2.out).mono ?_
      rintro e w3 ⟨rfl, hb⟩
      have B3 := Lib.hid (B2.out.trans (hb.mono B2.out.size))
      have R3 := Lib.hid (R2.out.kept (row := none) ⟨hb.os, hb.tape, hb.output, hb.size, fun k hk _ => hb.block k hk⟩ (by cases u5.ownBlock <;> simp))
      clear hb
      have NO : Hid (PP y = false → (x.cs.take (k + 1)).filter PP = (x.cs.take k).filter PP) := fun e => by
        rw [HT.out, List.filter_append, List.filter_cons_of_neg (by rw [e]; simp)]
        simp
      have YES : Hid (PP y = true → (x.cs.take (k + 1)).filter PP = (x.cs.take k).filter PP ++ [y]) := fun e => by
        rw [HT.out, List.filter_append, List.filter_cons_of_pos e]
        simp
      cases I with
      | false =>
        have HF := Lib.hid (NO.out (by rw [HCH.out]; rfl))
        go_wp2_with fail
        go_roundw
        case rel => exact ⟨k + 1, hkn, by go_num, by rw [HF.out]; exact R3.out, B3.out⟩
        case measure => simp [intOf]; omega
      | true =>
        by_cases g : q = s
        · have f := ba_eq' g
          have HF := Lib.hid (YES.out (by rw [HCH.out, decide_eq_true g]; rfl))
          have zB := B3.out.size
          clear g
          go_wp2_with (at_builtin; refine wpList_append_own _ rfl _ _ 34 rfl W1.heap.size 9 i0 _ 1 16 Tryz.underlying34 hi hz0 hz1 hz2 rfl (by decide) _ _ _ rfl (R3.out.alloc _) ⟨w3.heap.size, 0, none⟩ 1 1 [.string y.c] rfl rfl (str_news w3 y.c 9) (str_one y.c) (by unfold maxLen; omega) (by omega) (by simp; omega) ?_; intro v' w4 hown' hgrow _)
          have B4 : Hid (Below W1.heap.size W1 w4) := (B3.out.alloc zB _).grown hgrow (by simp; omega) (fun k e => (R3.out.lt k e).1)
          have R4 : Hid (w4.ownsRow W1.heap.size 9 1 v' ((x.cs.take (k + 1)).filter PP).length (strC ((x.cs.take (k + 1)).filter PP))) := by
            show w4.ownsRow _ _ _ _ _ _
            rw [HF.out, strC_snoc, List.length_append]
            exact hown'
          clear hown' hgrow
          go_wp2_with fail
          go_roundw
          case rel => exact ⟨k + 1, hkn, by go_num, R4.out, B4.out⟩
          case measure => simp [intOf]; omega
        · have f := ba_ne' g
          have HF := Lib.hid (NO.out (by rw [HCH.out, decide_eq_false g]; rfl))
          clear g
          go_wp2_with fail
          go_roundw
          case rel => exact ⟨k + 1, hkn, by go_num, by rw [HF.out]; exact R3.out, B3.out⟩
          case measure => simp [intOf]; omega
    · have hkd : decide ((k : Int) < (n : Int)) = false := by simp; omega
      have hkn2 : k = n := by omega
      have R3 : Hid (wr.ownsRow w.heap.size 9 1 u5 (x.cs.filter PP).length (strC (x.cs.filter PP))) := by
        have := RW.out
        rw [hkn2, ← HL.out, List.take_length] at this
        exact Go.Joins.ownsRow_le this zW
      have B3 : Hid (Below w.heap.size w wr) := K1.out.trans (NB.out.mono zW)
      clear hb hrow hkn2
      go_wp2_with fail
      go_ret
      exact ⟨_, rfl, R3.out, B3.out⟩

/-- Strings in memory, one behind the other. -/
def StrsAt (w : World) (p : Option Addr) (l : List Pr) : Prop := l = [] ∨ ∃ blk off, p = some ⟨blk, off, none⟩ ∧ ∀ i x, l[i]? = some x → w.cell? ⟨blk, off + i, none⟩ = some (.string x.c)
theorem StrsAt.next {w w' : World} {p : Option Addr} {l : List Pr} (h : StrsAt w p l) (hb : Below w.heap.size w w') : StrsAt w' p l := by
  rcases h with h | ⟨blk, off, hp, h⟩
  · exact .inl h
  · exact .inr ⟨blk, off, hp, fun i x hi => cell_next (h i x hi) hb⟩
theorem StrsAt.get {w : World} {p : Option Addr} {l : List Pr} (h : StrsAt w p l) {i : Nat} {x : Pr} (hi : l[i]? = some x) : ∃ blk off, p = some ⟨blk, off, none⟩ ∧ w.cell? ⟨blk, off + i, none⟩ = some (.string x.c) := by
  rcases h with h | ⟨blk, off, hp, h⟩
  · subst h; simp at hi
  · exact ⟨blk, off, hp, h i x hi⟩
theorem strs_of_row {w : World} {B T : Nat} {v : Value} {l : List Pr} (h : w.ownsRow B T 1 v l.length (strC l)) : ∃ p cap, v = .slice p l.length cap ∧ StrsAt w p l := by
  rcases Go.Joins.ownsRow_forms h with ⟨rfl, hn⟩ | ⟨g, cap, rfl⟩
  · have : l = [] := List.length_eq_zero_iff.1 hn
    subst this
    exact ⟨none, 0, rfl, Or.inl rfl⟩
  · refine ⟨_, cap, rfl, Or.inr ⟨g, 0, rfl, fun i x hi => ?_⟩⟩
    have z : (strC l)[i]? = some (.string x.c) := by unfold strC; rw [List.getElem?_map, hi]; rfl
    have := h.cells (g := g) rfl i _ z
    rwa [Addr.add_lit] at this

set_option maxRecDepth 100000 in
set_option maxHeartbeats 8000000 in
theorem SameStr_any (p q : Option Addr) (n c1 c2 : Nat) (l : List Pr) (w : World) (hP : StrsAt w p l) (hQ : StrsAt w q l) (hl : l.length = n) (hn : n ≤ 1000000000) :
    Calls Tryz.prog 14 #[.slice p n c1, .slice q n c2] w fun e w' => e = .returned (.bool true) ∧ Below w.heap.size w w' := by
  have P0 := Lib.hid hP; have Q0 := Lib.hid hQ; have HL := Lib.hid hl
  clear hP hQ hl
  go_enter Tryz.func14, Tryz.ntmps14
  go_wp2_with fail
  go_loopw [5] (fun i wr => ∃ k : Nat, k ≤ n ∧ i = .int .i64 k ∧ Below w.heap.size w wr) (fun i _ => n - (intOf i).toNat)
  case atStart => exact ⟨0, Nat.zero_le _, rfl, Below.refl _ _⟩
  case round =>
    obtain ⟨k, hk, rfl, hb⟩ := hrel
    have NB := Lib.hid hb
    by_cases hkn : k < n
    · obtain ⟨y, hy⟩ : ∃ y, l[k]? = some y := ⟨_, List.getElem?_eq_getElem (by rw [HL.out]; exact hkn)⟩
      obtain ⟨blk, off, hp, a0⟩ := (P0.out.next hb).get hy
      obtain ⟨blk2, off2, hq, b0⟩ := (Q0.out.next hb).get hy
      subst hp
      subst hq
      have hkd : decide ((k : Int) < (n : Int)) = true := by simp; omega
      have f := ba_eq' (rfl : y.c = y.c)
      clear hb hy
      go_wp2_with fail
      go_quiet (fail)
      go_wp2_with fail
      go_roundw
      case rel => exact ⟨k + 1, hkn, by go_num, below_drewN NB.out _⟩
      case measure => simp [intOf]; omega
    · have hkd : decide ((k : Int) < (n : Int)) = false := by simp; omega
      clear hb
      go_wp2_with fail
      go_ret
      exact ⟨rfl, NB.out⟩

end Go.Proofs.YtjnlbjlejggngaaGreatDoor
