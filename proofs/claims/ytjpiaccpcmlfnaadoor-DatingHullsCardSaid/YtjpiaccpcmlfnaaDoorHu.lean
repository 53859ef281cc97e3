/-
  What Hull answers, in package dating: a list of datings as the memory holds it. No statement of the seat is proved here.
-/
import Derived.Test.YtjpiaccpcmlfnaaDoorLk
namespace Go.Proofs.YtjpiaccpcmlfnaaDoor
open Go.RowKit Cal

/-- A list of datings, as memory holds it. -/
def DatsAt (w : World) (p : Option Addr) (n : Nat) (F L : Nat → Int) : Prop := n = 0 ∨ ∃ blk off, p = some ⟨blk, off, none⟩ ∧ ∀ i : Nat, i < n → w.cell? ⟨blk, off + i * 2, none⟩ = some (.int .i64 (F i)) ∧ w.cell? ⟨blk, off + i * 2 + 1, none⟩ = some (.int .i64 (L i))
theorem DatsAt.below {w w' : World} {p : Option Addr} {n : Nat} {F L : Nat → Int} (h : DatsAt w p n F L) (hb : Below w.heap.size w w') : DatsAt w' p n F L := by
  rcases h with h | ⟨blk, off, hp, h⟩
  · exact Or.inl h
  · exact Or.inr ⟨blk, off, hp, fun i hi => ⟨(hb.cell (p := ⟨blk, off + i * 2, none⟩) (World.block_lt_of_cell? w _ (h i hi).1)).trans (h i hi).1, (hb.cell (p := ⟨blk, off + i * 2 + 1, none⟩) (World.block_lt_of_cell? w _ (h i hi).2)).trans (h i hi).2⟩⟩

/-- The hull of the first k datings behind the first one. -/
def hF (F : Nat → Int) : Nat → Int
  | 0 => F 0
  | k + 1 => mn (hF F k) (F k)
def hL (L : Nat → Int) : Nat → Int
  | 0 => L 0
  | k + 1 => mx (hL L k) (L k)

theorem Box.put2 {w : World} {k : Nat} {a b : Int} (h : Box w k a b) (x y : Int) : Box ((w.setCell ⟨k, 0, none⟩ (.int .i64 x)).setCell ⟨k, 1, none⟩ (.int .i64 y)) k x y := by
  have H := (HoldsN.put h 0 (by omega) (.int .i64 x)).put 1 (by omega) (.int .i64 y)
  refine ⟨H.1, fun i hi => ⟨?_, (H.2 i hi).2⟩⟩
  rw [(H.2 i hi).1]
  have : i = 0 ∨ i = 1 := by omega
  rcases this with e | e <;> subst e <;> rfl
theorem Box.other2 {w : World} {k c : Nat} {a b : Int} (h : Box w k a b) (hc : c ≠ k) (x y : Value) : Box ((w.setCell ⟨c, 0, none⟩ x).setCell ⟨c, 1, none⟩ y) k a b := HoldsN.other (HoldsN.other h hc 0 x) hc 1 y
theorem Hull_empty (p : Option Addr) (cap : Nat) (w : World) :
    Calls Tryd.prog 22 #[.slice p 0 cap] w fun e w' => e = .returned (.tuple #[.agg #[.int .i64 0, .int .i64 0], .int .i64 9]) ∧ Below w.heap.size w w' := by
  go_enter Tryd.func22, Tryd.ntmps22
  go_wp2
  refine bodyPost_ret (by simp [results, Tryd.results22, go_sem] <;> rfl) rfl ⟨rfl, by go_grown⟩

theorem Hull_large (p : Option Addr) (n cap : Nat) (w : World) (h : 1024 < (n : Int)) :
    Calls Tryd.prog 22 #[.slice p n cap] w fun e w' => e = .returned (.tuple #[.agg #[.int .i64 0, .int .i64 0], .int .i64 8]) ∧ Below w.heap.size w w' := by
  have h0 : ((n : Int) == 0) = false := bool_ne (by omega)
  go_enter Tryd.func22, Tryd.ntmps22
  go_wp2
  refine bodyPost_ret (by simp [results, Tryd.results22, go_sem] <;> rfl) rfl ⟨rfl, by go_grown⟩

set_option maxRecDepth 100000 in
set_option maxHeartbeats 4000000 in
/-- All datings up to number m are valid; m is the end, or the first that is not. -/
theorem Hull_loop (blk off n cap m : Nat) (F L : Nat → Int) (w : World) (h1 : 0 < (n : Int)) (h2 : (n : Int) ≤ 1024) (hm : m ≤ n)
    (hc : ∀ i : Nat, i < n → w.cell? ⟨blk, off + i * 2, none⟩ = some (.int .i64 (F i)) ∧ w.cell? ⟨blk, off + i * 2 + 1, none⟩ = some (.int .i64 (L i)))
    (hv : ∀ i : Nat, i < m → okD (F i) (L i)) (hx : m = n ∨ ¬ okD (F m) (L m)) (A B E : Int)
    (hr : (m = n ∧ A = hF F n ∧ B = hL L n ∧ E = 0) ∨ (m < n ∧ A = 0 ∧ B = 0 ∧ E = 1)) :
    Calls Tryd.prog 22 #[.slice (some ⟨blk, off, none⟩) n cap] w fun e w' => e = .returned (.tuple #[.agg #[.int .i64 A, .int .i64 B], .int .i64 E]) ∧ Below w.heap.size w w' := by
  have h0 : ((n : Int) == 0) = false := bool_ne (by omega)
  have hlt : blk < w.heap.size := World.block_lt_of_cell? w _ (hc 0 (by omega)).1
  have hcell0 := (hc 0 (by omega)).1
  have hcell1 := (hc 0 (by omega)).2
  simp only [Nat.zero_mul, Nat.add_zero] at hcell0 hcell1
  have HC := Lib.hid hc; have HV := Lib.hid hv; have HX := Lib.hid hx; have HR := Lib.hid hr
  have hnd : decide ((0 : Int) < (n : Int)) = true := by simp; omega
  clear hc hv hx hr
  go_enter Tryd.func22, Tryd.ntmps22
  go_wp2
  go_loopw [21] (fun i wr => ∃ k : Nat, k ≤ m ∧ i = .int .i64 k ∧ Below w.heap.size w wr ∧ Box wr w.heap.size 0 0 ∧ Box wr (w.heap.size + 1) (hF F k) (hL L k)) (fun i _ => n - (intOf i).toNat)
  case atStart =>
    refine ⟨0, Nat.zero_le _, rfl, by go_grown, (Box.new w 0 0).alloc _, ?_⟩
    have h := Box.new (w.alloc (.cells #[.int .i64 0, .int .i64 0] 23)) (F 0) (L 0)
    rw [World.size_alloc] at h
    exact h
  case round =>
    obtain ⟨k, hk, rfl, hb, hR, hX⟩ := hrel
    have z := hX.lt
    have a0 := hX.c0; have a1 := hX.c1
    have r0 := hR.c0; have r1 := hR.c1
    have g0 := hX.frozen 0 (by omega); have g1 := hX.frozen 1 (by omega)
    have s0 := hR.frozen 0 (by omega); have s1 := hR.frozen 1 (by omega)
    have NB := Lib.hid hb; have NR := Lib.hid hR; have NX := Lib.hid hX
    by_cases hkn : k < n
    · have q0 := (hb.cell (p := ⟨blk, off + k * 2, none⟩) hlt).trans (HC.out k hkn).1
      have q1 := (hb.cell (p := ⟨blk, off + k * 2 + 1, none⟩) hlt).trans (HC.out k hkn).2
      have hkd : decide ((k : Int) < (n : Int)) = true := by simp; omega
      have hkp : 0 ≤ (k : Int) := by omega
      clear hb hR hX
      by_cases hkm : k < m
      · have e : (chk (F k) (L k) != 0) = false := by rw [chk_yes (HV.out k hkm)]; rfl
        go_wp2_with fail
        refine (Check_any _ _ _).mono ?_
        rintro e w' ⟨rfl, hb'⟩
        have MB : Hid (Below w.heap.size w w') := (NB.out.alloc NB.out.size (.cells #[.int .i64 (F k), .int .i64 (L k)] 23)).trans (hb'.mono (by have := NB.out.size; simp; omega))
        have MR := Lib.hid ((NR.out.alloc _).next hb'); have MX := Lib.hid ((NX.out.alloc _).next hb'); have MY := Lib.hid ((Box.new wr (F k) (L k)).next hb')
        clear hb' a0 a1 r0 r1 g0 g1 s0 s1
        have a0 := MX.out.c0; have a1 := MX.out.c1
        have r0 := MR.out.c0; have r1 := MR.out.c1
        have g0 := MX.out.frozen 0 (by omega); have g1 := MX.out.frozen 1 (by omega)
        have s0 := MR.out.frozen 0 (by omega); have s1 := MR.out.frozen 1 (by omega)
        have b0 := MY.out.c0; have b1 := MY.out.c1
        have z' := MY.out.lt
        obtain ⟨x, hx⟩ : ∃ x, x = mn (hF F k) (F k) := ⟨_, rfl⟩
        obtain ⟨y, hy⟩ : ∃ y, y = mx (hL L k) (L k) := ⟨_, rfl⟩
        have x' : (if F k < hF F k then F k else hF F k) = x := hx.symm
        have y' : (if hL L k < L k then L k else hL L k) = y := hy.symm
        have PX := Lib.hid hx; have PY := Lib.hid hy
        clear hx hy
        go_wp2
        go_roundw
        case rel =>
          refine ⟨k + 1, by omega, by go_num, ?_, MR.out.other2 (by omega) _ _, ?_⟩
          · exact (MB.out.setCell (p := ⟨w.heap.size + 1, 0, none⟩) (by simp) _).setCell (p := ⟨w.heap.size + 1, 1, none⟩) (by simp) _
          · rw [show hF F (k + 1) = x from PX.out.symm, show hL L (k + 1) = y from PY.out.symm]
            exact MX.out.put2 x y
        case measure => simp [intOf]; omega
      · have hm' := Lib.hid (show k = m by omega)
        have e : (chk (F k) (L k) != 0) = true := by
          have := (HX.out.resolve_left (by omega))
          rw [← hm'.out] at this
          rw [chk_no this]
          rfl
        have hE : A = 0 ∧ B = 0 ∧ E = 1 := by
          rcases HR.out with h | h
          · omega
          · exact h.2
        obtain ⟨rfl, rfl, rfl⟩ := hE
        go_wp2_with fail
        refine (Check_any _ _ _).mono ?_
        rintro e w' ⟨rfl, hb'⟩
        have MB : Hid (Below w.heap.size w w') := (NB.out.alloc NB.out.size (.cells #[.int .i64 (F k), .int .i64 (L k)] 23)).trans (hb'.mono (by have := NB.out.size; simp; omega))
        have MR := Lib.hid ((NR.out.alloc _).next hb'); have MX := Lib.hid ((NX.out.alloc _).next hb'); have MY := Lib.hid ((Box.new wr (F k) (L k)).next hb')
        clear hb' a0 a1 r0 r1 g0 g1 s0 s1
        have a0 := MX.out.c0; have a1 := MX.out.c1
        have r0 := MR.out.c0; have r1 := MR.out.c1
        have g0 := MX.out.frozen 0 (by omega); have g1 := MX.out.frozen 1 (by omega)
        have s0 := MR.out.frozen 0 (by omega); have s1 := MR.out.frozen 1 (by omega)
        have b0 := MY.out.c0; have b1 := MY.out.c1
        have z' := MY.out.lt
        have ec : chk (F k) (L k) = 1 := by
          have := (HX.out.resolve_left (by omega))
          rw [← hm'.out] at this
          exact chk_no this
        rw [ec] at e ⊢
        go_wp2
        refine bodyPost_ret (by simp [results, Tryd.results22, go_sem, set20 r0, set21 r1] <;> rfl) rfl ⟨rfl, ?_⟩
        exact (MB.out.setCell (p := ⟨w.heap.size, 0, none⟩) (Nat.le_refl _) _).setCell (p := ⟨w.heap.size, 1, none⟩) (Nat.le_refl _) _
    · have hkn' : k = n := by omega
      have hE : A = hF F n ∧ B = hL L n ∧ E = 0 := by
        rcases HR.out with h | h
        · exact h.2
        · omega
      obtain ⟨rfl, rfl, rfl⟩ := hE
      have hkd : decide ((k : Int) < (n : Int)) = false := by simp; omega
      have ek := Lib.hid hkn'
      clear hb hR hX hkn'
      go_wp2
      rw [ek.out]
      refine bodyPost_ret (by simp [results, Tryd.results22, go_sem, set20 r0, set21 r1] <;> rfl) rfl ⟨rfl, ?_⟩
      exact (NB.out.setCell (p := ⟨w.heap.size, 0, none⟩) (Nat.le_refl _) _).setCell (p := ⟨w.heap.size, 1, none⟩) (Nat.le_refl _) _
end Go.Proofs.YtjpiaccpcmlfnaaDoor
