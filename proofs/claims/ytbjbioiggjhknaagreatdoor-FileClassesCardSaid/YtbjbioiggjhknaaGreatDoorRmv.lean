/-
  The reference's moved. No statement of the seat is proved here.
-/
import Derived.Test.YtbjbioiggjhknaaGreatDoorRcl
namespace Go.Proofs.YtbjbioiggjhknaaGreatDoor
open Go Go.RowKit


theorem stp_7 {o p : Pln} {m : Pr} (hm : m ∈ p.ms) (h : (!has o.cs m.c || !has p.cs m.t) = true) : stpE o p = 7 := by
  unfold stpE
  rw [if_pos (List.any_eq_true.2 ⟨m, hm, h⟩)]
theorem stp_5 {o p : Pln} (h1 : ∀ m ∈ p.ms, (!has o.cs m.c || !has p.cs m.t) = false) (h : incr (p.ms.map (·.c)) = false) : stpE o p = 5 := by
  unfold stpE
  rw [if_neg (any_no h1), if_pos h]
theorem stp_24 {o p : Pln} {x : Pr} (h1 : ∀ m ∈ p.ms, (!has o.cs m.c || !has p.cs m.t) = false) (h2 : incr (p.ms.map (·.c)) = true) (hx : x ∈ o.cs) (h : nxt o p x.c = none) : stpE o p = 24 := by
  unfold stpE
  rw [if_neg (any_no h1), if_neg (by rw [h2]; simp), if_pos (List.any_eq_true.2 ⟨x, hx, by rw [h]; rfl⟩)]
theorem stp_0 {o p : Pln} (h1 : ∀ m ∈ p.ms, (!has o.cs m.c || !has p.cs m.t) = false) (h2 : incr (p.ms.map (·.c)) = true) (h : ∀ x ∈ o.cs, nxt o p x.c ≠ none) : stpE o p = 0 := by
  unfold stpE
  rw [if_neg (any_no h1), if_neg (by rw [h2]; simp), if_neg (any_no fun x hx => by
    cases e : nxt o p x.c with
    | none => exact absurd e (h x hx)
    | some _ => rfl)]

set_option maxRecDepth 100000 in
set_option maxHeartbeats 8000000 in
theorem MovedR_any (o x : Pln) (w : World) (hE : Env w) (hO : PlnOk w o) (hP : PlnOk w x) (n0 : o.cs.length ≤ 1000000000) (n1 : x.cs.length ≤ 1000000000) (n2 : x.ms.length ≤ 1000000000) (hzo : Szs o.cs) (hzm : Szs x.ms) :
    Calls Tryz.prog 51 #[o.val, x.val] w fun e w' => e = .returned (.int .i64 (stpE o x)) ∧ Below w.heap.size w w' := by
  have P0 := Lib.hid hP; have O0 := Lib.hid hO; have E0 := Lib.hid hE; have ZO := Lib.hid hzo; have ZM := Lib.hid hzm
  obtain ⟨W1, hW1⟩ : ∃ W1, W1 = (w.alloc (.cells o.cells 51)).alloc (.cells x.cells 51) := ⟨_, rfl⟩
  obtain ⟨b, hb⟩ : ∃ b, b = w.heap.size := ⟨_, rfl⟩
  have B1 : Hid (Below w.heap.size w W1) := by rw [hW1]; exact ((Below.refl _ _).alloc (Nat.le_refl _) _).alloc (by simp) _
  have XO : Hid (PlnAt W1 b 0 o) := by rw [hW1, hb]; exact (two_new w o x 51).1
  have XN : Hid (PlnAt W1 (b + 1) 0 x) := by rw [hW1, hb]; exact (two_new w o x 51).2
  have C1 := Lib.hid (fun c w2 (h : Below w.heap.size w w2) => HasR_any o c w2 (O0.out.next h) n0)
  have C2 := Lib.hid (fun c w2 (h : Below w.heap.size w w2) => HasR_any x c w2 (P0.out.next h) n1)
  have C3 := Lib.hid (fun y (hy : y ∈ x.ms) z (hz : z ∈ x.ms) w2 (h : Below w.heap.size w w2) => CompareR_any y.c z.c w2 (E0.out.below h) (ZM.out y hy).1 (ZM.out z hz).1)
  have C4 := Lib.hid (fun y (hy : y ∈ o.cs) w2 (h : Below w.heap.size w w2) => NextR_any o x y.c w2 (E0.out.below h) (O0.out.next h) (P0.out.next h) n0 n1 n2 (ZO.out y hy).1)
  unfold Pln.val at C1 C2 C4 ⊢
  unfold Pln.cells at hW1
  obtain ⟨n, hl⟩ : ∃ n, o.cs.length = n := ⟨_, rfl⟩
  obtain ⟨m, hm⟩ : ∃ m, x.ms.length = m := ⟨_, rfl⟩
  rw [hl] at n0
  rw [hm] at n2
  have HL := Lib.hid hl; have HM := Lib.hid hm
  obtain ⟨R, hR⟩ : ∃ R, R = stpE o x := ⟨_, rfl⟩
  have HR := Lib.hid hR
  rw [← hR]
  have XM : Hid (∀ wr, PlnAt wr (b + 1) 0 x → wr.cell? ⟨b + 1, 4, none⟩ = some (.slice x.mp m x.mc)) := fun wr h => by have := h.2.2.2.2; rwa [HM.out] at this
  have XL : Hid (∀ wr, PlnAt wr b 0 o → wr.cell? ⟨b, 3, none⟩ = some (.slice o.cp n o.cc)) := fun wr h => by have := h.2.2.2.1; rwa [HL.out] at this
  clear hP hO hE hzo hzm hl hm hR
  go_enter Tryz.func51, Tryz.ntmps51
  go_wp2_with fail
  rw [← hW1, ← hb]
  clear hW1 hb
  go_wp2_with fail
  go_loopw [5] (fun i wr => ∃ k : Nat, k ≤ m ∧ i = .int .i64 k ∧ (∀ j y, j < k → x.ms[j]? = some y → (!has o.cs y.c || !has x.cs y.t) = false) ∧ Below w.heap.size w wr ∧ PlnAt wr b 0 o ∧ PlnAt wr (b + 1) 0 x) (fun i _ => m - (intOf i).toNat)
  case atStart => exact ⟨0, Nat.zero_le _, rfl, fun j y h => absurd h (Nat.not_lt_zero _), B1.out, XO.out, XN.out⟩
  case round =>
    obtain ⟨k, hk, rfl, hs, hbw, hxo, hx⟩ := hrel
    have S3 := Lib.hid hs; have B3 := Lib.hid hbw; have O3 := Lib.hid hxo; have X3 := Lib.hid hx
    have c4 := XM.out _ hx
    have zb0 : b + 1 < wr.heap.size := hx.lt
    by_cases hkn : k < m
    · obtain ⟨y, hy⟩ : ∃ y, x.ms[k]? = some y := ⟨_, List.getElem?_eq_getElem (by rw [HM.out]; exact hkn)⟩
      obtain ⟨blk, off, hnp, hpc⟩ := (P0.out.2.next hbw).get hy
      have PY := Lib.hid hpc
      have y0 := hpc.1; have y1 := hpc.2
      have zb := hpc.lt
      have HY := Lib.hid hy
      have D1 := Lib.hid (fun w2 h => C1.out y.c w2 h)
      have D2 := Lib.hid (fun w2 h => C2.out y.t w2 h)
      obtain ⟨Q, hQ⟩ : ∃ Q, Q = has o.cs y.c := ⟨_, rfl⟩
      obtain ⟨Q2, hQ2⟩ : ∃ Q, Q = has x.cs y.t := ⟨_, rfl⟩
      rw [← hQ] at D1
      rw [← hQ2] at D2
      rw [hnp, HM.out] at D2
      have HQ := Lib.hid hQ; have HQ2 := Lib.hid hQ2
      have hkd : decide ((k : Int) < (m : Int)) = true := by simp; omega
      rw [hnp] at c4
      have SS : Hid (∀ v : World, Below wr.heap.size wr v → ((v.cell? ⟨b, 0, none⟩ = some (.int .i64 o.v) ∧ v.cell? ⟨b, 1, none⟩ = some (.int .i64 o.f) ∧ v.cell? ⟨b, 2, none⟩ = some (.int .i64 o.u) ∧ v.cell? ⟨b, 3, none⟩ = some (.slice o.cp o.cs.length o.cc) ∧ v.cell? ⟨b, 4, none⟩ = some (.slice o.mp o.ms.length o.mc)) ∧ (v.cell? ⟨b + 1, 0, none⟩ = some (.int .i64 x.v) ∧ v.cell? ⟨b + 1, 1, none⟩ = some (.int .i64 x.f) ∧ v.cell? ⟨b + 1, 2, none⟩ = some (.int .i64 x.u) ∧ v.cell? ⟨b + 1, 3, none⟩ = some (.slice x.cp x.cs.length x.cc) ∧ v.cell? ⟨b + 1, 4, none⟩ = some (.slice (some ⟨blk, off, none⟩) m x.mc)) ∧ v.cell? ⟨blk, off + k * 2, none⟩ = some (.string y.c) ∧ v.cell? ⟨blk, off + k * 2 + 1, none⟩ = some (.string y.t))) := fun v hb => ⟨O3.out.next hb, ⟨(X3.out.next hb).1, (X3.out.next hb).2.1, (X3.out.next hb).2.2.1, (X3.out.next hb).2.2.2.1, cell_next c4 hb⟩, (PY.out.next hb).1, (PY.out.next hb).2⟩
      have HC := Lib.hid (SS.out wr (Below.refl _ _)); have HCd := Lib.hid (SS.out wr.drew (below_drewN (Below.refl _ _) 1))
      have zb1 : b < wr.heap.size := hxo.lt
      obtain ⟨⟨o0, o1, o2, o3, o4⟩, ⟨x0, x1, x2, x3, x4⟩, _, _⟩ := HC.out
      clear hs hbw hx hxo hpc hy hnp hQ hQ2 c4
      cases Q with
      | false =>
        have hRt : Hid (R = 7) := HR.out.trans (stp_7 (List.mem_of_getElem? HY.out) (by rw [← HQ.out]; rfl))
        go_wp2_with fail
        have hs := HCd.out
        refine wp_region_held_drew (S := fun v => ((v.cell? ⟨b, 0, none⟩ = some (.int .i64 o.v) ∧ v.cell? ⟨b, 1, none⟩ = some (.int .i64 o.f) ∧ v.cell? ⟨b, 2, none⟩ = some (.int .i64 o.u) ∧ v.cell? ⟨b, 3, none⟩ = some (.slice o.cp o.cs.length o.cc) ∧ v.cell? ⟨b, 4, none⟩ = some (.slice o.mp o.ms.length o.mc)) ∧ (v.cell? ⟨b + 1, 0, none⟩ = some (.int .i64 x.v) ∧ v.cell? ⟨b + 1, 1, none⟩ = some (.int .i64 x.f) ∧ v.cell? ⟨b + 1, 2, none⟩ = some (.int .i64 x.u) ∧ v.cell? ⟨b + 1, 3, none⟩ = some (.slice x.cp x.cs.length x.cc) ∧ v.cell? ⟨b + 1, 4, none⟩ = some (.slice (some ⟨blk, off, none⟩) m x.mc)) ∧ v.cell? ⟨blk, off + k * 2, none⟩ = some (.string y.c) ∧ v.cell? ⟨blk, off + k * 2 + 1, none⟩ = some (.string y.t))) (by kernel_rfl) hs (fun _ => ?_)
        refine wpAnyH_take (i := 0) (oi := { dst := some 19, op := Op.load 51 (Operand.tmp 2), type := 51, pos := "ref.go:70", after := #[], guard := none }) (v := ?_) rfl (by kernel_rfl) (by kernel_rfl) (by kernel_rfl) (fun _ _ _ h => h) (Or.inl ⟨by rfl, ?_⟩) hs ?_
        rotate_left
        · (intro w hSw; (try dsimp only at hSw); go_simp; (try with_reducible rfl))
        simp only [Act.put, List.setIfInBounds_toArray, List.set_cons_zero, List.set_cons_succ]
        refine wpAnyH_take (i := 1) (oi := { dst := some 20, op := Op.fieldAddr 51 (Operand.tmp 3) 3, type := 0, pos := "ref.go:70", after := #[], guard := none }) (v := ?_) rfl (by kernel_rfl) (by kernel_rfl) (by kernel_rfl) (fun _ _ _ h => h) (Or.inl ⟨by rfl, ?_⟩) hs ?_
        rotate_left
        · (intro w hSw; (try dsimp only at hSw); go_simp; (try with_reducible rfl))
        simp only [Act.put, List.setIfInBounds_toArray, List.set_cons_zero, List.set_cons_succ]
        refine wpAnyH_take (i := 2) (oi := { dst := some 21, op := Op.load 49 (Operand.tmp 20), type := 49, pos := "ref.go:70", after := #[{ on := 1, ground := Ground.data }], guard := none }) (v := ?_) rfl (by kernel_rfl) (by kernel_rfl) (by kernel_rfl) (fun _ _ _ h => h) (Or.inl ⟨by rfl, ?_⟩) hs ?_
        rotate_left
        · (intro w hSw; (try dsimp only at hSw); go_simp; (try with_reducible rfl))
        simp only [Act.put, List.setIfInBounds_toArray, List.set_cons_zero, List.set_cons_succ]
        refine wpAnyH_take (i := 3) (oi := { dst := some 22, op := Op.move (Operand.tmp 5), type := 3, pos := "ref.go:70", after := #[], guard := none }) (v := ?_) rfl (by kernel_rfl) (by kernel_rfl) (by kernel_rfl) (fun _ _ _ h => h) (Or.inl ⟨by rfl, ?_⟩) hs ?_
        rotate_left
        · (intro w hSw; (try dsimp only at hSw); go_simp; (try with_reducible rfl))
        simp only [Act.put, List.setIfInBounds_toArray, List.set_cons_zero, List.set_cons_succ]
        refine wpAnyH_take (i := 4) (oi := { dst := some 23, op := Op.indexAddr 49 (Operand.tmp 21) (Operand.tmp 22), type := 0, pos := "ref.go:70", after := #[{ on := 2, ground := Ground.data }, { on := 3, ground := Ground.data }], guard := none }) (v := ?_) rfl (by kernel_rfl) (by kernel_rfl) (by kernel_rfl) (fun _ _ _ h => h) (Or.inl ⟨by rfl, ?_⟩) hs ?_
        rotate_left
        · (intro w hSw; (try dsimp only at hSw); go_simp; (try with_reducible rfl))
        simp only [Act.put, List.setIfInBounds_toArray, List.set_cons_zero, List.set_cons_succ]
        refine wpAnyH_take (i := 5) (oi := { dst := some 24, op := Op.fieldAddr 77 (Operand.tmp 23) 0, type := 0, pos := "ref.go:70", after := #[{ on := 4, ground := Ground.data }], guard := none }) (v := ?_) rfl (by kernel_rfl) (by kernel_rfl) (by kernel_rfl) (fun _ _ _ h => h) (Or.inl ⟨by rfl, ?_⟩) hs ?_
        rotate_left
        · (intro w hSw; (try dsimp only at hSw); go_simp; (try with_reducible rfl))
        simp only [Act.put, List.setIfInBounds_toArray, List.set_cons_zero, List.set_cons_succ]
        refine wpAnyH_take (i := 6) (oi := { dst := some 25, op := Op.load 9 (Operand.tmp 24), type := 9, pos := "ref.go:70", after := #[{ on := 5, ground := Ground.data }], guard := none }) (v := ?_) rfl (by kernel_rfl) (by kernel_rfl) (by kernel_rfl) (fun _ _ _ h => h) (Or.inl ⟨by rfl, ?_⟩) hs ?_
        rotate_left
        · (intro w hSw; (try dsimp only at hSw); go_simp; (try with_reducible rfl))
        simp only [Act.put, List.setIfInBounds_toArray, List.set_cons_zero, List.set_cons_succ]
        refine wpAnyH_ready (rs := [7]) (by kernel_rfl) (by simp) ?_
        refine AllReadyH.cons (o := { dst := some 26, op := Op.call { callee := Callee.value (Operand.func 35), args := #[Operand.tmp 19, Operand.tmp 25], argTypes := #[51, 9] }, type := 4, pos := "ref.go:70", after := #[{ on := 0, ground := Ground.data }, { on := 6, ground := Ground.data }], guard := none }) rfl (fun K hK => ?_) AllReadyH.nil
        go_simp
        go_at_call 35
        refine (D1.out _ (below_drewN B3.out 1)).mono ?_
        rintro e w2 ⟨rfl, hb2⟩
        have B4 : Hid (Below w.heap.size w w2) := (below_drewN B3.out 1).trans (hb2.mono B3.out.size)
        have hw2 : Below wr.heap.size wr w2 := (below_drewN (Below.refl _ _) 1).trans hb2
        have hs2 := SS.out w2 hw2
        clear hs
        have hs := hs2
        refine hK.out _ _ hs (fun _ => ?_)
        clear hK K
        (try simp only [Act.put, List.setIfInBounds_toArray, List.set_cons_zero, List.set_cons_succ])
        refine wpAnyH_take (i := 8) (oi := { dst := some 27, op := Op.unOp UnOp.not 4 (Operand.tmp 26), type := 4, pos := "ref.go:70", after := #[{ on := 7, ground := Ground.data }], guard := none }) (v := ?_) rfl (by kernel_rfl) (by kernel_rfl) (by kernel_rfl) (fun _ _ _ h => h) (Or.inl ⟨by rfl, ?_⟩) hs ?_
        rotate_left
        · (intro w hSw; (try dsimp only at hSw); go_simp; (try with_reducible rfl))
        simp only [Act.put, List.setIfInBounds_toArray, List.set_cons_zero, List.set_cons_succ]
        refine wpAnyH_take (i := 9) (oi := { dst := some 28, op := Op.move (Operand.tmp 27), type := 4, pos := "ref.go:70", after := #[{ on := 8, ground := Ground.data }, { on := 7, ground := Ground.chain }], guard := none }) (v := ?_) rfl (by kernel_rfl) (by kernel_rfl) (by kernel_rfl) (fun _ _ _ h => h) (Or.inl ⟨by rfl, ?_⟩) hs ?_
        rotate_left
        · (intro w hSw; (try dsimp only at hSw); go_simp; (try with_reducible rfl))
        simp only [Act.put, List.setIfInBounds_toArray, List.set_cons_zero, List.set_cons_succ]
        refine wpAnyH_take (i := 10) (oi := { dst := some 29, op := Op.load 51 (Operand.tmp 3), type := 51, pos := "ref.go:70", after := #[{ on := 9, ground := Ground.guard }], guard := some (9, false) }) (v := undef) rfl (by kernel_rfl) (by kernel_rfl) (by kernel_rfl) (fun _ _ _ h => h) (Or.inr ⟨by rfl, rfl⟩) hs ?_
        simp only [Act.put, List.setIfInBounds_toArray, List.set_cons_zero, List.set_cons_succ]
        refine wpAnyH_take (i := 11) (oi := { dst := some 30, op := Op.fieldAddr 51 (Operand.tmp 3) 3, type := 0, pos := "ref.go:70", after := #[{ on := 9, ground := Ground.guard }], guard := some (9, false) }) (v := undef) rfl (by kernel_rfl) (by kernel_rfl) (by kernel_rfl) (fun _ _ _ h => h) (Or.inr ⟨by rfl, rfl⟩) hs ?_
        simp only [Act.put, List.setIfInBounds_toArray, List.set_cons_zero, List.set_cons_succ]
        refine wpAnyH_take (i := 12) (oi := { dst := some 31, op := Op.load 49 (Operand.tmp 30), type := 49, pos := "ref.go:70", after := #[{ on := 11, ground := Ground.data }, { on := 9, ground := Ground.guard }], guard := some (9, false) }) (v := undef) rfl (by kernel_rfl) (by kernel_rfl) (by kernel_rfl) (fun _ _ _ h => h) (Or.inr ⟨by rfl, rfl⟩) hs ?_
        simp only [Act.put, List.setIfInBounds_toArray, List.set_cons_zero, List.set_cons_succ]
        refine wpAnyH_take (i := 13) (oi := { dst := some 32, op := Op.move (Operand.tmp 5), type := 3, pos := "ref.go:70", after := #[{ on := 9, ground := Ground.guard }], guard := some (9, false) }) (v := undef) rfl (by kernel_rfl) (by kernel_rfl) (by kernel_rfl) (fun _ _ _ h => h) (Or.inr ⟨by rfl, rfl⟩) hs ?_
        simp only [Act.put, List.setIfInBounds_toArray, List.set_cons_zero, List.set_cons_succ]
        refine wpAnyH_take (i := 14) (oi := { dst := some 33, op := Op.indexAddr 49 (Operand.tmp 31) (Operand.tmp 32), type := 0, pos := "ref.go:70", after := #[{ on := 12, ground := Ground.data }, { on := 13, ground := Ground.data }, { on := 9, ground := Ground.guard }], guard := some (9, false) }) (v := undef) rfl (by kernel_rfl) (by kernel_rfl) (by kernel_rfl) (fun _ _ _ h => h) (Or.inr ⟨by rfl, rfl⟩) hs ?_
        simp only [Act.put, List.setIfInBounds_toArray, List.set_cons_zero, List.set_cons_succ]
        refine wpAnyH_take (i := 15) (oi := { dst := some 34, op := Op.fieldAddr 77 (Operand.tmp 33) 1, type := 0, pos := "ref.go:70", after := #[{ on := 14, ground := Ground.data }, { on := 9, ground := Ground.guard }], guard := some (9, false) }) (v := undef) rfl (by kernel_rfl) (by kernel_rfl) (by kernel_rfl) (fun _ _ _ h => h) (Or.inr ⟨by rfl, rfl⟩) hs ?_
        simp only [Act.put, List.setIfInBounds_toArray, List.set_cons_zero, List.set_cons_succ]
        refine wpAnyH_take (i := 16) (oi := { dst := some 35, op := Op.load 9 (Operand.tmp 34), type := 9, pos := "ref.go:70", after := #[{ on := 15, ground := Ground.data }, { on := 9, ground := Ground.guard }], guard := some (9, false) }) (v := undef) rfl (by kernel_rfl) (by kernel_rfl) (by kernel_rfl) (fun _ _ _ h => h) (Or.inr ⟨by rfl, rfl⟩) hs ?_
        simp only [Act.put, List.setIfInBounds_toArray, List.set_cons_zero, List.set_cons_succ]
        refine wpAnyH_ready (rs := [17]) (by kernel_rfl) (by simp) ?_
        refine AllReadyH.cons (o := { dst := some 36, op := Op.call { callee := Callee.value (Operand.func 35), args := #[Operand.tmp 29, Operand.tmp 35], argTypes := #[51, 9] }, type := 4, pos := "ref.go:70", after := #[{ on := 10, ground := Ground.data }, { on := 16, ground := Ground.data }, { on := 9, ground := Ground.chain }, { on := 9, ground := Ground.guard }], guard := some (9, false) }) rfl (fun K hK => ?_) AllReadyH.nil
        go_simp
        refine hK.out _ _ hs (fun _ => ?_)
        clear hK K
        (try simp only [Act.put, List.setIfInBounds_toArray, List.set_cons_zero, List.set_cons_succ])
        refine wpAnyH_take (i := 18) (oi := { dst := some 37, op := Op.unOp UnOp.not 4 (Operand.tmp 36), type := 4, pos := "ref.go:70", after := #[{ on := 17, ground := Ground.data }, { on := 9, ground := Ground.guard }], guard := some (9, false) }) (v := undef) rfl (by kernel_rfl) (by kernel_rfl) (by kernel_rfl) (fun _ _ _ h => h) (Or.inr ⟨by rfl, rfl⟩) hs ?_
        simp only [Act.put, List.setIfInBounds_toArray, List.set_cons_zero, List.set_cons_succ]
        refine wpAnyH_take (i := 19) (oi := { dst := some 38, op := Op.pick (Operand.tmp 28) (Operand.const (Value.bool true)) (Operand.tmp 37), type := 4, pos := "ref.go:70", after := #[{ on := 9, ground := Ground.data }, { on := 18, ground := Ground.data }], guard := none }) (v := ?_) rfl (by kernel_rfl) (by kernel_rfl) (by kernel_rfl) (fun _ _ _ h => h) (Or.inl ⟨by rfl, ?_⟩) hs ?_
        rotate_left
        · (intro w hSw; (try dsimp only at hSw); go_simp; (try with_reducible rfl))
        simp only [Act.put, List.setIfInBounds_toArray, List.set_cons_zero, List.set_cons_succ]
        refine wpAnyH_done (by kernel_rfl) ?_ _
        go_wp2_with fail
        go_ret
        rw [hRt.out]
        exact ⟨rfl, B4.out⟩
      | true =>
        cases Q2 with
        | false =>
          have hRt : Hid (R = 7) := HR.out.trans (stp_7 (List.mem_of_getElem? HY.out) (by rw [← HQ2.out]; simp))
          go_wp2_with fail
          go_region_held3 (fun v => ((v.cell? ⟨b, 0, none⟩ = some (.int .i64 o.v) ∧ v.cell? ⟨b, 1, none⟩ = some (.int .i64 o.f) ∧ v.cell? ⟨b, 2, none⟩ = some (.int .i64 o.u) ∧ v.cell? ⟨b, 3, none⟩ = some (.slice o.cp o.cs.length o.cc) ∧ v.cell? ⟨b, 4, none⟩ = some (.slice o.mp o.ms.length o.mc)) ∧ (v.cell? ⟨b + 1, 0, none⟩ = some (.int .i64 x.v) ∧ v.cell? ⟨b + 1, 1, none⟩ = some (.int .i64 x.f) ∧ v.cell? ⟨b + 1, 2, none⟩ = some (.int .i64 x.u) ∧ v.cell? ⟨b + 1, 3, none⟩ = some (.slice x.cp x.cs.length x.cc) ∧ v.cell? ⟨b + 1, 4, none⟩ = some (.slice (some ⟨blk, off, none⟩) m x.mc)) ∧ v.cell? ⟨blk, off + k * 2, none⟩ = some (.string y.c) ∧ v.cell? ⟨blk, off + k * 2 + 1, none⟩ = some (.string y.t))) (first | exact HC.out | exact HCd.out | assumption)
            ((first
              | (go_at_call 35; refine (D2.out _ B4.out).mono ?_; rintro e w3 ⟨rfl, hb3⟩; have B5 := Lib.hid (B4.out.trans (hb3.mono B4.out.size)); have hs3 := SS.out w3 (hw2.trans (hb3.mono hw2.size)); have hw3 := hw2.trans (hb3.mono hw2.size))
              | (go_at_call 35; refine (D1.out _ (below_drewN B3.out 1)).mono ?_; rintro e w2 ⟨rfl, hb2⟩; have B4 : Hid (Below w.heap.size w w2) := (below_drewN B3.out 1).trans (hb2.mono B3.out.size); have hw2 : Below wr.heap.size wr w2 := (below_drewN (Below.refl _ _) 1).trans hb2; have hs2 := SS.out w2 hw2)))
          go_wp2_with fail
          go_ret
          rw [hRt.out]
          exact ⟨rfl, B5.out⟩
        | true =>
          have SN : Hid (∀ j y, j < k + 1 → x.ms[j]? = some y → (!has o.cs y.c || !has x.cs y.t) = false) := fun j z hj hz => by
            rcases (show j < k ∨ j = k by omega) with g | g
            · exact S3.out j z g hz
            · subst g
              obtain rfl : y = z := Option.some.inj (HY.out.symm.trans hz)
              rw [← HQ.out, ← HQ2.out]
              rfl
          go_wp2_with fail
          go_region_held3 (fun v => ((v.cell? ⟨b, 0, none⟩ = some (.int .i64 o.v) ∧ v.cell? ⟨b, 1, none⟩ = some (.int .i64 o.f) ∧ v.cell? ⟨b, 2, none⟩ = some (.int .i64 o.u) ∧ v.cell? ⟨b, 3, none⟩ = some (.slice o.cp o.cs.length o.cc) ∧ v.cell? ⟨b, 4, none⟩ = some (.slice o.mp o.ms.length o.mc)) ∧ (v.cell? ⟨b + 1, 0, none⟩ = some (.int .i64 x.v) ∧ v.cell? ⟨b + 1, 1, none⟩ = some (.int .i64 x.f) ∧ v.cell? ⟨b + 1, 2, none⟩ = some (.int .i64 x.u) ∧ v.cell? ⟨b + 1, 3, none⟩ = some (.slice x.cp x.cs.length x.cc) ∧ v.cell? ⟨b + 1, 4, none⟩ = some (.slice (some ⟨blk, off, none⟩) m x.mc)) ∧ v.cell? ⟨blk, off + k * 2, none⟩ = some (.string y.c) ∧ v.cell? ⟨blk, off + k * 2 + 1, none⟩ = some (.string y.t))) (first | exact HC.out | exact HCd.out | assumption)
            ((first
              | (go_at_call 35; refine (D2.out _ B4.out).mono ?_; rintro e w3 ⟨rfl, hb3⟩; have B5 := Lib.hid (B4.out.trans (hb3.mono B4.out.size)); have hs3 := SS.out w3 (hw2.trans (hb3.mono hw2.size)); have hw3 := hw2.trans (hb3.mono hw2.size))
              | (go_at_call 35; refine (D1.out _ (below_drewN B3.out 1)).mono ?_; rintro e w2 ⟨rfl, hb2⟩; have B4 : Hid (Below w.heap.size w w2) := (below_drewN B3.out 1).trans (hb2.mono B3.out.size); have hw2 : Below wr.heap.size wr w2 := (below_drewN (Below.refl _ _) 1).trans hb2; have hs2 := SS.out w2 hw2)))
          have O5 := Lib.hid (O3.out.next hw3); have X5 := Lib.hid (X3.out.next hw3)
          clear hb2 hb3 hs2 hs3 hw2 hw3
          go_wp2_with fail
          go_roundw
          case rel => exact ⟨k + 1, hkn, by go_num, SN.out, B5.out, O5.out, X5.out⟩
          case measure => simp [intOf]; omega
    · have hkd : decide ((k : Int) < (m : Int)) = false := by simp; omega
      have SI : Hid (∀ y ∈ x.ms, (!has o.cs y.c || !has x.cs y.t) = false) := all_of fun j y hj hy => S3.out j y (by have := HM.out; omega) hy
      clear hs hbw hx hxo
      go_wp2_with fail
      clear hkd c4
      go_loopw [6] (fun i wr => ∃ k : Nat, 1 ≤ k ∧ k ≤ m + 1 ∧ i = .int .i64 k ∧ (∀ j, j + 1 < k → adj x.ms j) ∧ Below w.heap.size w wr ∧ PlnAt wr b 0 o ∧ PlnAt wr (b + 1) 0 x) (fun i _ => m + 1 - (intOf i).toNat)
      case atStart => exact ⟨1, Nat.le_refl _, by omega, rfl, fun j h => by omega, B3.out, O3.out, X3.out⟩
      case round =>
        obtain ⟨k, hk1, hk, rfl, hs, hbw, hxo, hx⟩ := hrel
        have S7 := Lib.hid hs; have B7 := Lib.hid hbw; have O7 := Lib.hid hxo; have X7 := Lib.hid hx
        have c4 := XM.out _ hx
        have zb0 : b + 1 < wr.heap.size := hx.lt
        by_cases hkn : k < m
        · obtain ⟨z, hz⟩ : ∃ y, x.ms[k - 1]? = some y := ⟨_, List.getElem?_eq_getElem (by rw [HM.out]; omega)⟩
          obtain ⟨y, hy⟩ : ∃ y, x.ms[k]? = some y := ⟨_, List.getElem?_eq_getElem (by rw [HM.out]; omega)⟩
          obtain ⟨blk, off, hnp, hpc⟩ := (P0.out.2.next hbw).get hy
          obtain ⟨blk2, off2, hnp2, hpc2⟩ := (P0.out.2.next hbw).get hz
          obtain ⟨hbb, hoo⟩ : blk2 = blk ∧ off2 = off := by
            rw [hnp] at hnp2
            simp at hnp2
            exact ⟨hnp2.1.symm, hnp2.2.symm⟩
          subst hbb
          subst hoo
          have y0 := hpc.1; have y1 := hpc.2
          have z0 := hpc2.1; have z1 := hpc2.2
          have zb := hpc.lt
          have AD : Hid (adj x.ms (k - 1) ↔ cmpC z.c y.c < 0) := by
            show adj x.ms (k - 1) ↔ cmpC z.c y.c < 0
            unfold adj
            rw [hz, show k - 1 + 1 = k by omega, hy]
          have D1 := Lib.hid (fun w2 h => C3.out z (List.mem_of_getElem? hz) y (List.mem_of_getElem? hy) w2 h)
          obtain ⟨Q, hQ⟩ : ∃ Q, Q = cmpC z.c y.c := ⟨_, rfl⟩
          rw [← hQ] at D1 AD
          have hkd : decide ((k : Int) < (m : Int)) = true := by simp; omega
          have hj1 : (0 : Int) ≤ (k : Int) - 1 := by omega
          have hj2 : (k : Int) - 1 < (m : Int) := by omega
          have hj3 : ((k : Int) - 1).toNat = k - 1 := by omega
          have hj4 : IntKind.i64.wrap ((k : Int) - 1) = (k : Int) - 1 := IntWalk.i64_in _ (by omega)
          have hk2 : (1 : Int) ≤ (k : Int) := by omega
          have hkz : (k : Int) < (m : Int) := by omega
          have hkn2 : k ≤ m := by omega
          rw [hnp] at c4
          have HC := Lib.hid (show (wr.cell? ⟨b + 1, 4, none⟩ = some (.slice (some ⟨blk2, off2, none⟩) m x.mc) ∧ wr.cell? ⟨blk2, off2 + (k - 1) * 2, none⟩ = some (.string z.c) ∧ wr.cell? ⟨blk2, off2 + k * 2, none⟩ = some (.string y.c)) from ⟨c4, z0, y0⟩)
          clear hs hbw hx hxo hpc hpc2 hy hz hnp hnp2 hQ
          go_wp2_with fail
          go_region_held3 (fun v => (v.cell? ⟨b + 1, 4, none⟩ = some (.slice (some ⟨blk2, off2, none⟩) m x.mc) ∧ v.cell? ⟨blk2, off2 + (k - 1) * 2, none⟩ = some (.string z.c) ∧ v.cell? ⟨blk2, off2 + k * 2, none⟩ = some (.string y.c))) (first | exact HC.out | assumption)
            ((first
              | (go_at_call 79; refine (D1.out _ (below_drewN B7.out 1)).mono ?_; rintro e w2 ⟨E, rfl, hb⟩; have B8 : Hid (Below w.heap.size w w2) := (below_drewN B7.out 1).trans (hb.mono B7.out.size); have O8 : Hid (PlnAt w2 b 0 o) := PlnAt.next (show PlnAt wr.drew b 0 o from O7.out) hb; have X8 : Hid (PlnAt w2 (b + 1) 0 x) := PlnAt.next (show PlnAt wr.drew (b + 1) 0 x from X7.out) hb; have hs2 : (w2.cell? ⟨b + 1, 4, none⟩ = some (.slice (some ⟨blk2, off2, none⟩) m x.mc) ∧ w2.cell? ⟨blk2, off2 + (k - 1) * 2, none⟩ = some (.string z.c) ∧ w2.cell? ⟨blk2, off2 + k * 2, none⟩ = some (.string y.c)) := ⟨cell_next (w := wr.drew) HC.out.1 hb, cell_next (w := wr.drew) HC.out.2.1 hb, cell_next (w := wr.drew) HC.out.2.2 hb⟩)))
          clear hb hs2 D1 c4 y0 y1 z0 z1
          by_cases ho : 0 ≤ Q
          · have ho2 : decide (Q ≥ 0) = true := by simp; omega
            have hRt : Hid (R = 5) := HR.out.trans (stp_5 SI.out (not_adj (i := k - 1) (by rw [AD.out]; omega)))
            clear ho
            go_wp2_with fail
            go_ret
            rw [hRt.out]
            exact ⟨rfl, B8.out⟩
          · have ho2 : decide (Q ≥ 0) = false := by simp; omega
            have SN : Hid (∀ j, j + 1 < k + 1 → adj x.ms j) := fun j hj => by
              rcases (show j + 1 < k ∨ j = k - 1 by omega) with g | g
              · exact S7.out j g
              · subst g
                exact AD.out.2 (by omega)
            clear ho
            go_wp2_with fail
            go_roundw
            case rel => exact ⟨k + 1, by omega, by omega, by go_num, SN.out, B8.out, O8.out, X8.out⟩
            case measure => simp [intOf]; omega
        · have hkd : decide ((k : Int) < (m : Int)) = false := by simp; omega
          have SI3 : Hid (incr (x.ms.map (·.c)) = true) := (incr_iff _).2 fun i => by
            rcases (show i + 1 < m ∨ m ≤ i + 1 by omega) with g | g
            · exact S7.out i (by omega)
            · unfold adj
              rw [List.getElem?_eq_none (l := x.ms) (i := i + 1) (by rw [HM.out]; exact g)]
              cases x.ms[i]? <;> trivial
          clear hs hbw hx hxo
          go_wp2_with fail
          clear hkd c4
          go_loopw [9] (fun i wr => ∃ k : Nat, k ≤ n ∧ i = .int .i64 k ∧ (∀ j y, j < k → o.cs[j]? = some y → nxt o x y.c ≠ none) ∧ Below w.heap.size w wr ∧ PlnAt wr b 0 o ∧ PlnAt wr (b + 1) 0 x) (fun i _ => n - (intOf i).toNat)
          case atStart => exact ⟨0, Nat.zero_le _, rfl, fun j y h => absurd h (Nat.not_lt_zero _), B7.out, O7.out, X7.out⟩
          case round =>
            obtain ⟨k, hk, rfl, hs, hbw, hxo, hx⟩ := hrel
            have S9 := Lib.hid hs; have B9 := Lib.hid hbw; have O9 := Lib.hid hxo; have X9 := Lib.hid hx
            have c3 := XL.out _ hxo
            have zb0 : b + 1 < wr.heap.size := hx.lt
            have zb1 : b < wr.heap.size := hxo.lt
            by_cases hkn : k < n
            · obtain ⟨y, hy⟩ : ∃ y, o.cs[k]? = some y := ⟨_, List.getElem?_eq_getElem (by rw [HL.out]; exact hkn)⟩
              obtain ⟨blk, off, hnp, hpc⟩ := (O0.out.1.next hbw).get hy
              have y0 := hpc.1; have y1 := hpc.2
              have zb := hpc.lt
              have HY := Lib.hid hy
              have D1 := Lib.hid (fun w2 h => C4.out y (List.mem_of_getElem? hy) w2 h)
              have hkd : decide ((k : Int) < (n : Int)) = true := by simp; omega
              have SN : Hid (nxt o x y.c ≠ none → ∀ j y, j < k + 1 → o.cs[j]? = some y → nxt o x y.c ≠ none) := fun e j z hj hz => by
                rcases (show j < k ∨ j = k by omega) with g | g
                · exact S9.out j z g hz
                · subst g
                  obtain rfl : y = z := Option.some.inj (HY.out.symm.trans hz)
                  exact e
              rw [hnp] at c3
              rw [hnp, HL.out] at D1
              have PY := Lib.hid hpc
              have SS : Hid (∀ v : World, Below wr.heap.size wr v → ((v.cell? ⟨b, 0, none⟩ = some (.int .i64 o.v) ∧ v.cell? ⟨b, 1, none⟩ = some (.int .i64 o.f) ∧ v.cell? ⟨b, 2, none⟩ = some (.int .i64 o.u) ∧ v.cell? ⟨b, 3, none⟩ = some (.slice (some ⟨blk, off, none⟩) n o.cc) ∧ v.cell? ⟨b, 4, none⟩ = some (.slice o.mp o.ms.length o.mc)) ∧ (v.cell? ⟨b + 1, 0, none⟩ = some (.int .i64 x.v) ∧ v.cell? ⟨b + 1, 1, none⟩ = some (.int .i64 x.f) ∧ v.cell? ⟨b + 1, 2, none⟩ = some (.int .i64 x.u) ∧ v.cell? ⟨b + 1, 3, none⟩ = some (.slice x.cp x.cs.length x.cc) ∧ v.cell? ⟨b + 1, 4, none⟩ = some (.slice x.mp x.ms.length x.mc)) ∧ v.cell? ⟨blk, off + k * 2, none⟩ = some (.string y.c))) := fun v hb => ⟨⟨(O9.out.next hb).1, (O9.out.next hb).2.1, (O9.out.next hb).2.2.1, cell_next c3 hb, (O9.out.next hb).2.2.2.2⟩, X9.out.next hb, (PY.out.next hb).1⟩
              have HC := Lib.hid (SS.out wr (Below.refl _ _)); have HCd := Lib.hid (SS.out wr.drew (below_drewN (Below.refl _ _) 1))
              obtain ⟨⟨o0, o1, o2, o3, o4⟩, ⟨x0, x1, x2, x3, x4⟩, _⟩ := HC.out
              clear hs hbw hx hxo hpc hy hnp c3
              cases hp : nxt o x y.c with
              | none =>
                have hRt : Hid (R = 24) := HR.out.trans (stp_24 SI.out SI3.out (List.mem_of_getElem? HY.out) hp)
                rw [hp] at D1
                unfold optV at D1
                clear hp
                go_wp2_with fail
                go_region_held3 (fun v => ((v.cell? ⟨b, 0, none⟩ = some (.int .i64 o.v) ∧ v.cell? ⟨b, 1, none⟩ = some (.int .i64 o.f) ∧ v.cell? ⟨b, 2, none⟩ = some (.int .i64 o.u) ∧ v.cell? ⟨b, 3, none⟩ = some (.slice (some ⟨blk, off, none⟩) n o.cc) ∧ v.cell? ⟨b, 4, none⟩ = some (.slice o.mp o.ms.length o.mc)) ∧ (v.cell? ⟨b + 1, 0, none⟩ = some (.int .i64 x.v) ∧ v.cell? ⟨b + 1, 1, none⟩ = some (.int .i64 x.f) ∧ v.cell? ⟨b + 1, 2, none⟩ = some (.int .i64 x.u) ∧ v.cell? ⟨b + 1, 3, none⟩ = some (.slice x.cp x.cs.length x.cc) ∧ v.cell? ⟨b + 1, 4, none⟩ = some (.slice x.mp x.ms.length x.mc)) ∧ v.cell? ⟨blk, off + k * 2, none⟩ = some (.string y.c))) (first | exact HC.out | exact HCd.out | assumption)
                  ((first
                    | (go_at_call 56; refine (D1.out _ (below_drewN B9.out 1)).mono ?_; rintro e w2 ⟨rfl, hb2⟩; have Ba : Hid (Below w.heap.size w w2) := (below_drewN B9.out 1).trans (hb2.mono B9.out.size); have hw2 : Below wr.heap.size wr w2 := (below_drewN (Below.refl _ _) 1).trans hb2; have hs2 := SS.out w2 hw2)))
                go_wp2_with fail
                go_ret
                rw [hRt.out]
                exact ⟨rfl, Ba.out⟩
              | some q =>
                have SN2 := Lib.hid (SN.out (by rw [hp]; simp))
                rw [hp] at D1
                unfold optV at D1
                clear hp
                go_wp2_with fail
                go_region_held3 (fun v => ((v.cell? ⟨b, 0, none⟩ = some (.int .i64 o.v) ∧ v.cell? ⟨b, 1, none⟩ = some (.int .i64 o.f) ∧ v.cell? ⟨b, 2, none⟩ = some (.int .i64 o.u) ∧ v.cell? ⟨b, 3, none⟩ = some (.slice (some ⟨blk, off, none⟩) n o.cc) ∧ v.cell? ⟨b, 4, none⟩ = some (.slice o.mp o.ms.length o.mc)) ∧ (v.cell? ⟨b + 1, 0, none⟩ = some (.int .i64 x.v) ∧ v.cell? ⟨b + 1, 1, none⟩ = some (.int .i64 x.f) ∧ v.cell? ⟨b + 1, 2, none⟩ = some (.int .i64 x.u) ∧ v.cell? ⟨b + 1, 3, none⟩ = some (.slice x.cp x.cs.length x.cc) ∧ v.cell? ⟨b + 1, 4, none⟩ = some (.slice x.mp x.ms.length x.mc)) ∧ v.cell? ⟨blk, off + k * 2, none⟩ = some (.string y.c))) (first | exact HC.out | exact HCd.out | assumption)
                  ((first
                    | (go_at_call 56; refine (D1.out _ (below_drewN B9.out 1)).mono ?_; rintro e w2 ⟨rfl, hb2⟩; have Ba : Hid (Below w.heap.size w w2) := (below_drewN B9.out 1).trans (hb2.mono B9.out.size); have hw2 : Below wr.heap.size wr w2 := (below_drewN (Below.refl _ _) 1).trans hb2; have hs2 := SS.out w2 hw2)))
                have Oa := Lib.hid (O9.out.next hw2); have Xa := Lib.hid (X9.out.next hw2)
                clear hb2 hs2 hw2 y0 y1 o0 o1 o2 o3 o4 x0 x1 x2 x3 x4
                go_wp2_with fail
                go_roundw
                case rel => exact ⟨k + 1, hkn, by go_num, SN2.out, Ba.out, Oa.out, Xa.out⟩
                case measure => simp [intOf]; omega
            · have hkd : decide ((k : Int) < (n : Int)) = false := by simp; omega
              have hRt : Hid (R = 0) := HR.out.trans (stp_0 SI.out SI3.out (all_of fun j y hj hy => S9.out j y (by have := HL.out; omega) hy))
              clear hs hbw hx hxo
              go_wp2_with fail
              go_ret
              rw [hRt.out]
              exact ⟨rfl, B9.out⟩

end Go.Proofs.YtbjbioiggjhknaaGreatDoor
