/-
  The notes of a file for which a closure answers true; the greatest of notes. No statement of the seat is proved here.
-/
import Derived.Test.YtbjbioiggjhknaaGreatDoorFi
namespace Go.Proofs.YtbjbioiggjhknaaGreatDoor
open Go Go.RowKit

theorem info62 : (Tryz.prog.info? 74).map (fun i => (i.zero, i.size, i.bytes)) = some (some (.agg #[.string ⟨#[]⟩, .int .i64 0, .int .i64 0, .int .i64 0]), 4, 40) := by kernel_rfl

/-- A file. -/
structure Fil where
  id : Int
  of : Int
  op : Int
  cl : Int
  c : ByteArray
  t : ByteArray
  pt : Int
  np : Option Addr
  nc : Nat
  ns : List Nt
def Fil.cells (x : Fil) : Array Value := #[.int .i64 x.id, .int .i64 x.of, .int .i64 x.op, .int .i64 x.cl, .string x.c, .string x.t, .int .i64 x.pt, .slice x.np x.ns.length x.nc]
def Fil.val (x : Fil) : Value := .agg x.cells
structure FilAt (w : World) (b o : Nat) (x : Fil) : Prop where
  c0 : w.cell? ⟨b, o, none⟩ = some (.int .i64 x.id)
  c1 : w.cell? ⟨b, o + 1, none⟩ = some (.int .i64 x.of)
  c2 : w.cell? ⟨b, o + 2, none⟩ = some (.int .i64 x.op)
  c3 : w.cell? ⟨b, o + 3, none⟩ = some (.int .i64 x.cl)
  c4 : w.cell? ⟨b, o + 4, none⟩ = some (.string x.c)
  c5 : w.cell? ⟨b, o + 5, none⟩ = some (.string x.t)
  c6 : w.cell? ⟨b, o + 6, none⟩ = some (.int .i64 x.pt)
  c7 : w.cell? ⟨b, o + 7, none⟩ = some (.slice x.np x.ns.length x.nc)
theorem FilAt.next {w w' : World} {b o : Nat} {x : Fil} (h : FilAt w b o x) (hb : Below w.heap.size w w') : FilAt w' b o x :=
  ⟨cell_next h.c0 hb, cell_next h.c1 hb, cell_next h.c2 hb, cell_next h.c3 hb, cell_next h.c4 hb, cell_next h.c5 hb, cell_next h.c6 hb, cell_next h.c7 hb⟩
theorem fil_new (w : World) (x : Fil) (t : TypeId) : FilAt (w.alloc (.cells x.cells t)) w.heap.size 0 x :=
  ⟨World.cell?_alloc_new w _ t 0, World.cell?_alloc_new w _ t 1, World.cell?_alloc_new w _ t 2, World.cell?_alloc_new w _ t 3, World.cell?_alloc_new w _ t 4, World.cell?_alloc_new w _ t 5, World.cell?_alloc_new w _ t 6, World.cell?_alloc_new w _ t 7⟩

theorem nt_news (w : World) (x : Nt) (t : TypeId) : ∀ j u, x.cells[j]? = some u → (w.alloc (.cells x.cells.toArray t)).cell? ((⟨w.heap.size, 0, none⟩ : Addr).add j) = some u := fun j u h => by
  rw [Addr.add_lit, Nat.zero_add, World.cell?_alloc_new]
  simpa using h
theorem nt_one (x : Nt) : ∀ u ∈ x.cells, u.oneCell' = true := by
  intro v hv
  simp only [Nt.cells, List.mem_cons, List.not_mem_nil, or_false] at hv
  rcases hv with h | h | h | h <;> subst h <;> rfl
theorem nt_new (w : World) (x : Nt) (t : TypeId) : NtAt (w.alloc (.cells #[.string x.s, .int .i64 x.a, .int .i64 x.b, .int .i64 x.r] t)) w.heap.size 0 x :=
  ⟨World.cell?_alloc_new w _ t 0, World.cell?_alloc_new w _ t 1, World.cell?_alloc_new w _ t 2, World.cell?_alloc_new w _ t 3⟩

set_option maxHeartbeats 1000000 in
theorem kn59_any (x : Nt) (b : Nat) (d : Int) (w : World) (h : w.cell? ⟨b, 0, none⟩ = some (.int .i64 d)) :
    Calls Tryz.prog 62 #[x.val, .pointer (some ⟨b, 0, none⟩)] w fun e w' => e = .returned (.bool (decide (x.r ≤ d))) ∧ Below w.heap.size w w' := by
  have z := World.block_lt_of_cell? w _ h
  unfold Nt.val
  go_enter Tryz.func62, Tryz.ntmps62
  go_wp2
  go_ret
  exact ⟨rfl, by go_grown⟩

set_option maxHeartbeats 1000000 in
theorem nm55_any (x : Nt) (b c : Nat) (s : ByteArray) (d : Int) (w : World) (h : w.cell? ⟨b, 0, none⟩ = some (.string s)) (h2 : w.cell? ⟨c, 0, none⟩ = some (.int .i64 d)) :
    Calls Tryz.prog 59 #[x.val, .pointer (some ⟨b, 0, none⟩), .pointer (some ⟨c, 0, none⟩)] w fun e w' => e = .returned (.bool (eqs s x && decide (x.r ≤ d))) ∧ Below w.heap.size w w' := by
  have z := World.block_lt_of_cell? w _ h
  have z2 := World.block_lt_of_cell? w _ h2
  unfold Nt.val eqs
  by_cases k : x.s = s
  · have q := ba_eq' k
    rw [decide_eq_true k]
    clear k
    go_enter Tryz.func59, Tryz.ntmps59
    go_wp2
    go_ret
    exact ⟨rfl, by go_grown⟩
  · have q := ba_ne' k
    rw [decide_eq_false k]
    clear k
    go_enter Tryz.func59, Tryz.ntmps59
    go_wp2
    go_ret
    exact ⟨rfl, by go_grown⟩

set_option maxRecDepth 100000 in
set_option maxHeartbeats 8000000 in
theorem notesOf59 (x : Fil) (b1 : Nat) (P : Nt → Bool) (Inv : World → Prop) (hI : ∀ w w' : World, Inv w → Below w.heap.size w w' → Inv w')
    (hC : ∀ y ∈ x.ns, ∀ w : World, Inv w → Calls Tryz.prog 62 #[y.val, .pointer (some ⟨b1, 0, none⟩)] w fun e w' => e = .returned (.bool (P y)) ∧ Below w.heap.size w w')
    (w : World) (hP : NtsAt w x.np x.ns) (h0 : Inv w) (hn : x.ns.length ≤ 1000000000) :
    Calls Tryz.prog 58 #[x.val, .func (.func 62) #[] #[.pointer (some ⟨b1, 0, none⟩)]] w fun e w' => ∃ v, e = .returned v ∧ w'.ownsRow w.heap.size 74 4 v (x.ns.filter P).length (ntC (x.ns.filter P)) ∧ Below w.heap.size w w' := by
  obtain ⟨i0, hi, hz0, hz1, hz2⟩ := info_parts info62
  obtain ⟨n, hl⟩ : ∃ n, x.ns.length = n := ⟨_, rfl⟩
  rw [hl] at hn
  have K1 : Hid (Below w.heap.size w (w.alloc (.cells x.cells 39))) := (Below.refl _ _).alloc (Nat.le_refl _) _
  have X1 := fil_new w x 39
  have d7 := X1.c7
  rw [hl] at d7
  have HP := Lib.hid (hP.next K1.out); have HC := Lib.hid hC; have HI := Lib.hid hI; have H0 := Lib.hid (hI _ _ h0 K1.out); have HL := Lib.hid hl
  obtain ⟨W1, hW1⟩ : ∃ W1, W1 = w.alloc (.cells x.cells 39) := ⟨_, rfl⟩
  rw [← hW1] at K1 X1 d7 HP H0
  unfold Fil.val
  unfold Fil.cells at hW1 ⊢
  rw [hl] at hW1 ⊢
  have zW : w.heap.size ≤ W1.heap.size := K1.out.size
  clear hP hC hI h0 hl X1
  go_enter Tryz.func58, Tryz.ntmps58
  go_wp2_with fail
  rw [← hW1]
  clear hW1
  go_wp2_with fail
  go_loopw [5, 11] (fun v i wr => ∃ k : Nat, k ≤ n ∧ i = .int .i64 k ∧ wr.ownsRow W1.heap.size 74 4 v ((x.ns.take k).filter P).length (ntC ((x.ns.take k).filter P)) ∧ Below W1.heap.size W1 wr) (fun _ i _ => n - (intOf i).toNat)
  case atStart => exact ⟨0, Nat.zero_le _, rfl, World.ownsRow_nil _ _ _ _, Below.refl _ _⟩
  case round =>
    obtain ⟨k, hk, rfl, hrow, hb⟩ := hrel
    have NB := Lib.hid hb
    have RW := Lib.hid hrow
    by_cases hkn : k < n
    · obtain ⟨y, hy⟩ : ∃ y, x.ns[k]? = some y := ⟨_, List.getElem?_eq_getElem (by rw [HL.out]; exact hkn)⟩
      obtain ⟨blk, off, hnp, hpc⟩ := HP.out.get hy
      have PW := Lib.hid (hpc.next hb)
      have C1 := Lib.hid (HC.out y (List.mem_of_getElem? hy))
      have IW := Lib.hid (HI.out _ _ H0.out hb)
      have HT : Hid (x.ns.take (k + 1) = x.ns.take k ++ [y]) := by
        obtain ⟨h1, h2⟩ := List.getElem?_eq_some_iff.1 hy
        show _ = _
        rw [List.take_succ_eq_append_getElem h1, h2]
      have HLen : ((x.ns.take k).filter P).length ≤ k := by
        have := List.length_filter_le P (x.ns.take k)
        rw [List.length_take] at this
        omega
      have hkd : decide ((k : Int) < (n : Int)) = true := by simp; omega
      have q0 := PW.out.1; have q1 := PW.out.2.1; have q2 := PW.out.2.2.1; have q3 := PW.out.2.2.2
      have zb := PW.out.lt
      obtain ⟨Q, hQ⟩ : ∃ Q, Q = P y := ⟨_, rfl⟩
      rw [← hQ] at C1
      have HQ := Lib.hid hQ
      unfold Nt.val at C1
      clear hb hrow hpc hy hQ
      rw [hnp]
      go_wp2_with fail
      have IV := Lib.hid (HI.out wr (wr.alloc (.cells #[.string y.s, .int .i64 y.a, .int .i64 y.b, .int .i64 y.r] 74)) IW.out ((Below.refl _ _).alloc (Nat.le_refl _) _))
      refine (C1.out _ IV.out).mono ?_
      rintro e w2 ⟨rfl, hb⟩
      have YB := Lib.hid ((nt_new wr y 74).next hb)
      have RW2 := Lib.hid ((RW.out.alloc (.cells #[.string y.s, .int .i64 y.a, .int .i64 y.b, .int .i64 y.r] 74)).kept (row := none) ⟨hb.os, hb.tape, hb.output, hb.size, fun k hk _ => hb.block k hk⟩ (by cases u5.ownBlock <;> simp))
      have B2 : Hid (Below W1.heap.size W1 w2) := NB.out.trans ((((Below.refl _ _).alloc (Nat.le_refl _) _).trans (hb.mono (by simp))).mono NB.out.size)
      have z2 := YB.out.lt
      clear hb q0 q1 q2 q3
      cases Q with
      | false =>
        have HF : Hid ((x.ns.take (k + 1)).filter P = (x.ns.take k).filter P) := by
          show _ = _
          rw [HT.out, List.filter_append, List.filter_cons_of_neg (by rw [← HQ.out]; simp)]
          simp
        go_wp2_with fail
        go_roundw
        case rel => exact ⟨k + 1, hkn, by go_num, by rw [HF.out]; exact RW2.out, B2.out⟩
        case measure => simp [intOf]; omega
      | true =>
        have HF : Hid ((x.ns.take (k + 1)).filter P = (x.ns.take k).filter P ++ [y]) := by
          show _ = _
          rw [HT.out, List.filter_append, List.filter_cons_of_pos (by rw [← HQ.out])]
          simp
        have q0 := YB.out.1; have q1 := YB.out.2.1; have q2 := YB.out.2.2.1; have q3 := YB.out.2.2.2
        have zB := B2.out.size
        go_wp2_with (at_builtin; refine wpList_append_own _ rfl _ _ 37 rfl W1.heap.size 74 i0 _ 4 40 Tryz.underlying37 hi hz0 hz1 hz2 rfl (by decide) _ _ _ rfl (RW2.out.alloc _) ⟨w2.heap.size, 0, none⟩ 1 1 y.cells rfl rfl (nt_news w2 y 74) (nt_one y) (by unfold maxLen; omega) (by omega) (by simp; omega) ?_; intro v' w3 hown' hgrow _)
        have B3 : Hid (Below W1.heap.size W1 w3) := (B2.out.alloc zB _).grown hgrow (by simp; omega) (fun k e => (RW2.out.lt k e).1)
        have R3 : Hid (w3.ownsRow W1.heap.size 74 4 v' ((x.ns.take (k + 1)).filter P).length (ntC ((x.ns.take (k + 1)).filter P))) := by
          show w3.ownsRow _ _ _ _ _ _
          rw [HF.out, ntC_snoc, List.length_append]
          exact hown'
        clear hown' hgrow
        go_wp2_with fail
        go_roundw
        case rel => exact ⟨k + 1, hkn, by go_num, R3.out, B3.out⟩
        case measure => simp [intOf]; omega
    · have hkd : decide ((k : Int) < (n : Int)) = false := by simp; omega
      have hkn2 : k = n := by omega
      have R3 : Hid (wr.ownsRow w.heap.size 74 4 u5 (x.ns.filter P).length (ntC (x.ns.filter P))) := by
        have := RW.out
        rw [hkn2, ← HL.out, List.take_length] at this
        exact Go.Joins.ownsRow_le this zW
      have B3 : Hid (Below w.heap.size w wr) := K1.out.trans (NB.out.mono zW)
      clear hb hrow hkn2
      go_wp2_with fail
      go_ret
      exact ⟨_, rfl, R3.out, B3.out⟩

set_option maxRecDepth 100000 in
set_option maxHeartbeats 8000000 in
theorem notesOf55 (x : Fil) (b1 b2 : Nat) (P : Nt → Bool) (Inv : World → Prop) (hI : ∀ w w' : World, Inv w → Below w.heap.size w w' → Inv w')
    (hC : ∀ y ∈ x.ns, ∀ w : World, Inv w → Calls Tryz.prog 59 #[y.val, .pointer (some ⟨b1, 0, none⟩), .pointer (some ⟨b2, 0, none⟩)] w fun e w' => e = .returned (.bool (P y)) ∧ Below w.heap.size w w')
    (w : World) (hP : NtsAt w x.np x.ns) (h0 : Inv w) (hn : x.ns.length ≤ 1000000000) :
    Calls Tryz.prog 58 #[x.val, .func (.func 59) #[] #[.pointer (some ⟨b1, 0, none⟩), .pointer (some ⟨b2, 0, none⟩)]] w fun e w' => ∃ v, e = .returned v ∧ w'.ownsRow w.heap.size 74 4 v (x.ns.filter P).length (ntC (x.ns.filter P)) ∧ Below w.heap.size w w' := by
  obtain ⟨i0, hi, hz0, hz1, hz2⟩ := info_parts info62
  obtain ⟨n, hl⟩ : ∃ n, x.ns.length = n := ⟨_, rfl⟩
  rw [hl] at hn
  have K1 : Hid (Below w.heap.size w (w.alloc (.cells x.cells 39))) := (Below.refl _ _).alloc (Nat.le_refl _) _
  have X1 := fil_new w x 39
  have d7 := X1.c7
  rw [hl] at d7
  have HP := Lib.hid (hP.next K1.out); have HC := Lib.hid hC; have HI := Lib.hid hI; have H0 := Lib.hid (hI _ _ h0 K1.out); have HL := Lib.hid hl
  obtain ⟨W1, hW1⟩ : ∃ W1, W1 = w.alloc (.cells x.cells 39) := ⟨_, rfl⟩
  rw [← hW1] at K1 X1 d7 HP H0
  unfold Fil.val
  unfold Fil.cells at hW1 ⊢
  rw [hl] at hW1 ⊢
  have zW : w.heap.size ≤ W1.heap.size := K1.out.size
  clear hP hC hI h0 hl X1
  go_enter Tryz.func58, Tryz.ntmps58
  go_wp2_with fail
  rw [← hW1]
  clear hW1
  go_wp2_with fail
  go_loopw [5, 11] (fun v i wr => ∃ k : Nat, k ≤ n ∧ i = .int .i64 k ∧ wr.ownsRow W1.heap.size 74 4 v ((x.ns.take k).filter P).length (ntC ((x.ns.take k).filter P)) ∧ Below W1.heap.size W1 wr) (fun _ i _ => n - (intOf i).toNat)
  case atStart => exact ⟨0, Nat.zero_le _, rfl, World.ownsRow_nil _ _ _ _, Below.refl _ _⟩
  case round =>
    obtain ⟨k, hk, rfl, hrow, hb⟩ := hrel
    have NB := Lib.hid hb
    have RW := Lib.hid hrow
    by_cases hkn : k < n
    · obtain ⟨y, hy⟩ : ∃ y, x.ns[k]? = some y := ⟨_, List.getElem?_eq_getElem (by rw [HL.out]; exact hkn)⟩
      obtain ⟨blk, off, hnp, hpc⟩ := HP.out.get hy
      have PW := Lib.hid (hpc.next hb)
      have C1 := Lib.hid (HC.out y (List.mem_of_getElem? hy))
      have IW := Lib.hid (HI.out _ _ H0.out hb)
      have HT : Hid (x.ns.take (k + 1) = x.ns.take k ++ [y]) := by
        obtain ⟨h1, h2⟩ := List.getElem?_eq_some_iff.1 hy
        show _ = _
        rw [List.take_succ_eq_append_getElem h1, h2]
      have HLen : ((x.ns.take k).filter P).length ≤ k := by
        have := List.length_filter_le P (x.ns.take k)
        rw [List.length_take] at this
        omega
      have hkd : decide ((k : Int) < (n : Int)) = true := by simp; omega
      have q0 := PW.out.1; have q1 := PW.out.2.1; have q2 := PW.out.2.2.1; have q3 := PW.out.2.2.2
      have zb := PW.out.lt
      obtain ⟨Q, hQ⟩ : ∃ Q, Q = P y := ⟨_, rfl⟩
      rw [← hQ] at C1
      have HQ := Lib.hid hQ
      unfold Nt.val at C1
      clear hb hrow hpc hy hQ
      rw [hnp]
      go_wp2_with fail
      have IV := Lib.hid (HI.out wr (wr.alloc (.cells #[.string y.s, .int .i64 y.a, .int .i64 y.b, .int .i64 y.r] 74)) IW.out ((Below.refl _ _).alloc (Nat.le_refl _) _))
      refine (C1.out _ IV.out).mono ?_
      rintro e w2 ⟨rfl, hb⟩
      have YB := Lib.hid ((nt_new wr y 74).next hb)
      have RW2 := Lib.hid ((RW.out.alloc (.cells #[.string y.s, .int .i64 y.a, .int .i64 y.b, .int .i64 y.r] 74)).kept (row := none) ⟨hb.os, hb.tape, hb.output, hb.size, fun k hk _ => hb.block k hk⟩ (by cases u5.ownBlock <;> simp))
      have B2 : Hid (Below W1.heap.size W1 w2) := NB.out.trans ((((Below.refl _ _).alloc (Nat.le_refl _) _).trans (hb.mono (by simp))).mono NB.out.size)
      have z2 := YB.out.lt
      clear hb q0 q1 q2 q3
      cases Q with
      | false =>
        have HF : Hid ((x.ns.take (k + 1)).filter P = (x.ns.take k).filter P) := by
          show _ = _
          rw [HT.out, List.filter_append, List.filter_cons_of_neg (by rw [← HQ.out]; simp)]
          simp
        go_wp2_with fail
        go_roundw
        case rel => exact ⟨k + 1, hkn, by go_num, by rw [HF.out]; exact RW2.out, B2.out⟩
        case measure => simp [intOf]; omega
      | true =>
        have HF : Hid ((x.ns.take (k + 1)).filter P = (x.ns.take k).filter P ++ [y]) := by
          show _ = _
          rw [HT.out, List.filter_append, List.filter_cons_of_pos (by rw [← HQ.out])]
          simp
        have q0 := YB.out.1; have q1 := YB.out.2.1; have q2 := YB.out.2.2.1; have q3 := YB.out.2.2.2
        have zB := B2.out.size
        go_wp2_with (at_builtin; refine wpList_append_own _ rfl _ _ 37 rfl W1.heap.size 74 i0 _ 4 40 Tryz.underlying37 hi hz0 hz1 hz2 rfl (by decide) _ _ _ rfl (RW2.out.alloc _) ⟨w2.heap.size, 0, none⟩ 1 1 y.cells rfl rfl (nt_news w2 y 74) (nt_one y) (by unfold maxLen; omega) (by omega) (by simp; omega) ?_; intro v' w3 hown' hgrow _)
        have B3 : Hid (Below W1.heap.size W1 w3) := (B2.out.alloc zB _).grown hgrow (by simp; omega) (fun k e => (RW2.out.lt k e).1)
        have R3 : Hid (w3.ownsRow W1.heap.size 74 4 v' ((x.ns.take (k + 1)).filter P).length (ntC ((x.ns.take (k + 1)).filter P))) := by
          show w3.ownsRow _ _ _ _ _ _
          rw [HF.out, ntC_snoc, List.length_append]
          exact hown'
        clear hown' hgrow
        go_wp2_with fail
        go_roundw
        case rel => exact ⟨k + 1, hkn, by go_num, R3.out, B3.out⟩
        case measure => simp [intOf]; omega
    · have hkd : decide ((k : Int) < (n : Int)) = false := by simp; omega
      have hkn2 : k = n := by omega
      have R3 : Hid (wr.ownsRow w.heap.size 74 4 u5 (x.ns.filter P).length (ntC (x.ns.filter P))) := by
        have := RW.out
        rw [hkn2, ← HL.out, List.take_length] at this
        exact Go.Joins.ownsRow_le this zW
      have B3 : Hid (Below w.heap.size w wr) := K1.out.trans (NB.out.mono zW)
      clear hb hrow hkn2
      go_wp2_with fail
      go_ret
      exact ⟨_, rfl, R3.out, B3.out⟩

end Go.Proofs.YtbjbioiggjhknaaGreatDoor
