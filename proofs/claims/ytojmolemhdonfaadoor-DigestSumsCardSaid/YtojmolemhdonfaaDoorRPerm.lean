/-
  What the reference's Permute answers, walked over the program's text. No statement of the seat is proved here.
-/
import Derived.Test.YtojmolemhdonfaaDoorRRound
import Derived.StillTailTactics
namespace Go.Proofs.YtojmolemhdonfaaDoor
open Go.RowKit Kec
theorem info42 : (Tryd.prog.info? 42).map (·.size) = some 24 := by kernel_rfl
theorem info44 : (Tryd.prog.info? 44).map (·.size) = some 25 := by kernel_rfl
theorem rcv_lit : (#[.int .u64 1, .int .u64 32898, .int .u64 9223372036854808714, .int .u64 9223372039002292224, .int .u64 32907, .int .u64 2147483649, .int .u64 9223372039002292353, .int .u64 9223372036854808585, .int .u64 138, .int .u64 136, .int .u64 2147516425, .int .u64 2147483658, .int .u64 2147516555, .int .u64 9223372036854775947, .int .u64 9223372036854808713, .int .u64 9223372036854808579, .int .u64 9223372036854808578, .int .u64 9223372036854775936, .int .u64 32778, .int .u64 9223372039002259466, .int .u64 9223372039002292353, .int .u64 9223372036854808704, .int .u64 2147483649, .int .u64 9223372039002292232] : Array Value) = vec 24 rc := by kernel_rfl
theorem rotv_lit : (#[.int .i64 0, .int .i64 1, .int .i64 62, .int .i64 28, .int .i64 27, .int .i64 36, .int .i64 44, .int .i64 6, .int .i64 55, .int .i64 20, .int .i64 3, .int .i64 10, .int .i64 43, .int .i64 25, .int .i64 39, .int .i64 41, .int .i64 45, .int .i64 15, .int .i64 21, .int .i64 8, .int .i64 18, .int .i64 2, .int .i64 61, .int .i64 56, .int .i64 14] : Array Value) = rotV := by kernel_rfl
abbrev z24u : Array Value := #[.int .u64 0, .int .u64 0, .int .u64 0, .int .u64 0, .int .u64 0, .int .u64 0, .int .u64 0, .int .u64 0, .int .u64 0, .int .u64 0, .int .u64 0, .int .u64 0, .int .u64 0, .int .u64 0, .int .u64 0, .int .u64 0, .int .u64 0, .int .u64 0, .int .u64 0, .int .u64 0, .int .u64 0, .int .u64 0, .int .u64 0, .int .u64 0]
abbrev z25i : Array Value := #[.int .i64 0, .int .i64 0, .int .i64 0, .int .i64 0, .int .i64 0, .int .i64 0, .int .i64 0, .int .i64 0, .int .i64 0, .int .i64 0, .int .i64 0, .int .i64 0, .int .i64 0, .int .i64 0, .int .i64 0, .int .i64 0, .int .i64 0, .int .i64 0, .int .i64 0, .int .i64 0, .int .i64 0, .int .i64 0, .int .i64 0, .int .i64 0, .int .i64 0]
theorem rotV_one : rotV.all (·.oneCell') = true := by kernel_rfl
set_option maxRecDepth 100000 in
set_option maxHeartbeats 1000000 in
theorem rconst_any (w : World) : Calls Tryd.prog 26 #[] w fun e w' => e = .returned (.agg (vec 24 rc)) ∧ Below w.heap.size w w' := by
  have HB : Hid ((w.alloc (.cells z24u 42)).heap[w.heap.size]? = some (.cells z24u 42 (0, 0))) := heap_alloc_new w _
  have HN : Hid (Below w.heap.size w ((w.alloc (.cells z24u 42)).setRow w.heap.size (vec 24 rc))) := below_setRow ((Below.refl _ _).alloc (Nat.le_refl _) _) (Nat.le_refl _) _
  have HR : Hid (((w.alloc (.cells z24u 42)).setRow w.heap.size (vec 24 rc)).heap[w.heap.size]? = some (.cells (vec 24 rc) 42 (0, 0))) := setRow_heap _ _ _ _ _ _ HB.out
  go_enter Tryd.func26, Tryd.ntmps26
  go_wp2_with (first | (rw [rcv_lit]; refine wpList_store_row rfl 42 _ _ rfl _ (vec 24 rc) rfl rfl 42 _ HB.out (by rw [vec_size]; exact info42) (by rw [vec_size]; rfl) (vec_one _ _) ?_))
  exact bodyPost_ret (v := .agg (vec 24 rc)) (results_cell_row Tryd.results26 _ _ _ 42 (vec 24 rc) (0, 0) _ rfl HR.out Tryd.underlying42 rfl (by rw [vec_size]; exact info42)) rfl ⟨rfl, HN.out⟩
set_option maxRecDepth 100000 in
set_option maxHeartbeats 1000000 in
theorem rrots_any (w : World) : Calls Tryd.prog 27 #[] w fun e w' => e = .returned (.agg rotV) ∧ Below w.heap.size w w' := by
  have HB : Hid ((w.alloc (.cells z25i 44)).heap[w.heap.size]? = some (.cells z25i 44 (0, 0))) := heap_alloc_new w _
  have HN : Hid (Below w.heap.size w ((w.alloc (.cells z25i 44)).setRow w.heap.size rotV)) := below_setRow ((Below.refl _ _).alloc (Nat.le_refl _) _) (Nat.le_refl _) _
  have HR : Hid (((w.alloc (.cells z25i 44)).setRow w.heap.size rotV).heap[w.heap.size]? = some (.cells rotV 44 (0, 0))) := setRow_heap _ _ _ _ _ _ HB.out
  go_enter Tryd.func27, Tryd.ntmps27
  go_wp2_with (first | (rw [rotv_lit]; refine wpList_store_row rfl 44 _ _ rfl _ rotV rfl rfl 44 _ HB.out (by rw [rotV_size]; exact info44) (by rw [rotV_size]; rfl) rotV_one ?_))
  exact bodyPost_ret (v := .agg rotV) (results_cell_row Tryd.results27 _ _ _ 44 rotV (0, 0) _ rfl HR.out Tryd.underlying44 rfl (by rw [rotV_size]; exact info44)) rfl ⟨rfl, HN.out⟩

theorem still_load_row {o : Oper} {a : Act} {w : World} {K : Act → Prop} (ty : TypeId) (x : Operand) (ho : o.op = .load ty x) (b : Nat) (cs : Array Value) (d : TypeDesc) (hx : a.eval x = .pointer (some ⟨b, 0, none⟩))
    {t : TypeId} (hB : w.heap[b]? = some (.cells cs t (0, 0))) (hu : Tryd.prog.underlying ty = some d) (hd : d.isRow = true) (hi : (Tryd.prog.info? ty).map (·.size) = some cs.size) (h : K (a.put o.dst (.agg cs))) : o.still Tryd.prog a w K := by
  have hr : w.rangeAt b 0 cs.toList := by
    have := World.rangeAt_of_block (w := w) hB 0 cs.size
    rwa [show cs.extract 0 (0 + cs.size) = cs from by rw [Nat.zero_add]; exact Array.extract_eq_self_of_le (Nat.le_refl _)] at this
  have hl := run_loadVar_mid (P := Tryd.prog) w b 0 ty cs.toList d hr hu hd (by rw [Array.length_toList]; exact hi)
  unfold Oper.still execOp
  simp only [ho, hx, Instr.loadAt, Instr.sureAddr, Sem.run_bind, Sem.run_pure, Result.andThen_ok, hl]
  rw [Oper.stillUpon_value]
  simpa using h

/-- The blocks of the reference's Permute: the state, the result's, the constants, the rotations. -/
structure RP (w0 : World) (bc : Nat) (fa : Nat → W) (w : World) : Prop where
  below : Below w0.heap.size w0 w
  lo : w0.heap.size + 2 ≤ bc
  hi : bc + 2 ≤ w.heap.size
  a : Blk w w0.heap.size 25 23 fa
  res : Blk w (w0.heap.size + 1) 25 23 (fun _ => 0)
  c : Blk w bc 24 42 rc
  r : RBlk w (bc + 1)
theorem RBlk.below {w w' : World} {B b : Nat} (h : RBlk w b) (hb : Below B w w') (hB : b < B) : RBlk w' b := by
  unfold RBlk
  rw [hb.block b hB]; exact h
theorem RP.next {w0 w w' : World} {bc : Nat} {fa : Nat → W} (h : RP w0 bc fa w) (hb : Below w.heap.size w w') : RP w0 bc fa w' :=
  ⟨h.below.trans (hb.mono h.below.size), h.lo, Nat.le_trans h.hi hb.size, h.a.below hb h.a.lt, h.res.below hb h.res.lt, h.c.below hb h.c.lt, h.r.below hb h.r.lt⟩
theorem RP.drew {w0 w : World} {bc : Nat} {fa : Nat → W} (h : RP w0 bc fa w) : RP w0 bc fa w.drew := ⟨h.below.drew, h.lo, h.hi, h.a, h.res, h.c, h.r⟩
theorem RP.set {w0 w : World} {bc : Nat} {fa : Nat → W} (h : RP w0 bc fa w) (g : Nat → W) : RP w0 bc g (w.setRow w0.heap.size (vec 25 g)) :=
  ⟨below_setRow h.below (Nat.le_refl _) _, h.lo, by rw [size_setRow]; exact h.hi, h.a.row g, h.res.rowOther (by omega) _, h.c.rowOther (by have := h.lo; omega) _, h.r.rowOther (by have := h.lo; omega) _⟩
theorem RP.made {w w2 : World} {f : Nat → W} (hb : Below w.heap.size w w2) (hs : w.heap.size + 2 ≤ w2.heap.size) (ha : Blk w2 w.heap.size 25 23 f) (hr : Blk w2 (w.heap.size + 1) 25 23 fun _ => 0) :
    RP w w2.heap.size f ((((w2.alloc (.cells z24u 42)).alloc (.cells z25i 44)).setRow w2.heap.size (vec 24 rc)).setRow (w2.heap.size + 1) rotV) := by
  have B1 : ((w2.alloc (.cells z24u 42)).alloc (.cells z25i 44)).heap[w2.heap.size]? = some (.cells z24u 42 (0, 0)) := by
    rw [Below.heap_alloc _ _ _ (by simp)]; exact heap_alloc_new w2 _
  have B2 : ((w2.alloc (.cells z24u 42)).alloc (.cells z25i 44)).heap[w2.heap.size + 1]? = some (.cells z25i 44 (0, 0)) := by
    have := heap_alloc_new (w2.alloc (.cells z24u 42)) (.cells z25i 44)
    rwa [World.size_alloc] at this
  refine ⟨below_setRow (below_setRow ((hb.alloc hb.size _).alloc (by simp; have := hb.size; omega) _) hb.size _) (by have := hb.size; omega) _, hs, by simp, ?_, ?_, ?_, ?_⟩
  · exact (((ha.alloc _).alloc _).rowOther (by omega) _).rowOther (by omega) _
  · exact (((hr.alloc _).alloc _).rowOther (by omega) _).rowOther (by omega) _
  · have : Blk (((w2.alloc (.cells z24u 42)).alloc (.cells z25i 44)).setRow w2.heap.size (vec 24 rc)) w2.heap.size 24 42 rc := setRow_heap _ _ _ _ _ _ B1
    exact this.rowOther (by omega) _
  · have h : (((w2.alloc (.cells z24u 42)).alloc (.cells z25i 44)).setRow w2.heap.size (vec 24 rc)).heap[w2.heap.size + 1]? = some (.cells z25i 44 (0, 0)) := by
      rw [setRow_other _ _ _ _ (by omega)]; exact B2
    exact setRow_heap _ _ _ _ _ _ h
set_option maxRecDepth 100000 in
set_option maxHeartbeats 2000000 in
theorem rperm_any (f : Nat → W) (w : World) :
    Calls Tryd.prog 12 #[.agg (vec 25 f)] w fun e w' => e = .returned (.agg (vec 25 (perm f))) ∧ Below w.heap.size w w' := by
  go_enter Tryd.func12, Tryd.ntmps12
  go_wp2_with fail
  refine (rconst_any _).mono ?_
  rintro e w1 ⟨rfl, hb1⟩
  have N1 := Lib.hid hb1
  clear hb1
  go_wp2_with fail
  refine (rrots_any _).mono ?_
  rintro e w2 ⟨rfl, hb2⟩
  have N2 := Lib.hid (N1.out.trans (hb2.mono N1.out.size))
  clear hb2
  rw [zeros25] at N2
  have hs : w.heap.size + 2 ≤ w2.heap.size := by have := N2.out.size; simpa using this
  have hA : Blk w2 w.heap.size 25 23 f := (made2_0 w f _).below N2.out (by simp; omega)
  have hR : Blk w2 (w.heap.size + 1) 25 23 fun _ => 0 := (made2_1 w _ _ _ _).below N2.out (by simp)
  have hN : Below w.heap.size w w2 := (made2 w f).trans (N2.out.mono (by simp; omega))
  have HP := Lib.hid (RP.made hN hs hA hR)
  have B1 : Hid (((w2.alloc (.cells z24u 42)).alloc (.cells z25i 44)).heap[w2.heap.size]? = some (.cells z24u 42 (0, 0))) := by
    show _ = _
    rw [Below.heap_alloc _ _ _ (by simp)]; exact heap_alloc_new w2 _
  have B2 : Hid ((((w2.alloc (.cells z24u 42)).alloc (.cells z25i 44)).setRow w2.heap.size (vec 24 rc)).heap[w2.heap.size + 1]? = some (.cells z25i 44 (0, 0))) := by
    show _ = _
    rw [setRow_other _ _ _ _ (by omega)]
    have := heap_alloc_new (w2.alloc (.cells z24u 42)) (.cells z25i 44)
    rwa [World.size_alloc] at this
  clear N1 N2 hs hA hR hN
  go_wp2_with (first
    | (refine wpList_store_row rfl 42 _ _ rfl _ (vec 24 rc) rfl rfl 42 _ B1.out (by rw [vec_size]; exact info42) (by rw [vec_size]; rfl) (vec_one _ _) ?_)
    | (refine wpList_store_row rfl 44 _ _ rfl _ rotV rfl rfl 44 _ B2.out (by rw [rotV_size]; exact info44) (by rw [rotV_size]; rfl) rotV_one ?_))
  have hP := HP.out
  clear HP B1 B2
  generalize w2.heap.size = bc at *
  generalize ((w2.alloc (.cells z24u 42)).alloc (.cells z25i 44)).setRow bc (vec 24 rc) = wa at *
  generalize wa.setRow (bc + 1) rotV = wb at *
  go_loopw [5] (fun i wr => ∃ k : Nat, k ≤ 24 ∧ i = .int .i64 k ∧ RP w bc (rounds k f) wr) (fun i _ => 24 - (intOf i).toNat)
  case atStart => exact ⟨0, by omega, rfl, hP⟩
  case round =>
    clear hP
    obtain ⟨k, hk, rfl, hP⟩ := hrel
    by_cases hlt : k < 24
    · have hk24 : decide ((k : Int) < 24) = true := by simp; omega
      have i0 : (0 : Int) ≤ (k : Int) := by omega
      have i1 : (k : Int) < 24 := by omega
      have c0 := hP.c.cell (i := k) hlt
      have HA := Lib.hid hP.a
      have HRr := Lib.hid hP.r
      have HPP := Lib.hid hP
      clear hP
      go_wp2_with fail
      refine wp_region_still_tail 5 (by kernel_rfl) (by kernel_rfl) ?_
      simp only [List.take_succ_cons, List.take_zero, List.drop_succ_cons, List.drop_zero]
      refine wpStill_step (fun K hK => ?_)
      rw [if_pos (by rfl)]
      refine still_load_row 23 _ rfl _ (vec 25 (rounds k f)) _ rfl HA.out Tryd.underlying23 rfl (by rw [vec_size]; exact info23) ?_
      refine hK _ ?_
      clear hK K
      repeat still_step
      refine wpStill_step (fun K hK => ?_)
      rw [if_pos (by rfl)]
      refine still_load_row 44 _ rfl _ rotV _ rfl HRr.out Tryd.underlying44 rfl (by rw [rotV_size]; exact info44) ?_
      refine hK _ ?_
      clear hK K
      refine wpStill_nil ?_
      change wpList _ _ _ _ _ wr.drew
      have HD := Lib.hid HPP.out.drew
      clear HA HRr HPP c0
      generalize wr.drew = wx at *
      go_wp2_with fail
      refine (rround_any _ _ _).mono ?_
      rintro e w3 ⟨rfl, hb3⟩
      have HE := Lib.hid (HD.out.next hb3)
      have HEa := Lib.hid HE.out.a
      clear hb3
      go_wp2_with (refine store_blk HEa.out rfl _ _ rfl rfl rfl ?_)
      go_roundw
      case rel => exact ⟨k + 1, by omega, by go_num, HE.out.set _⟩
      case measure => simp [intOf]; omega
    · obtain rfl : k = 24 := by omega
      clear hlt
      have HA := Lib.hid hP.a
      have HRs := Lib.hid hP.res
      have HB := Lib.hid (below_setRow hP.below (by omega : w.heap.size ≤ w.heap.size + 1) (vec 25 (rounds 24 f)))
      clear hP
      go_wp2_with (first | (refine load_blk HA.out rfl _ rfl rfl ?_) | (refine store_blk HRs.out rfl _ _ rfl rfl rfl ?_))
      exact bodyPost_ret (v := .agg (vec 25 (rounds 24 f))) (result_blk Tryd.results12 _ rfl (HRs.out.row _)) rfl ⟨rfl, HB.out⟩
end Go.Proofs.YtojmolemhdonfaaDoor
