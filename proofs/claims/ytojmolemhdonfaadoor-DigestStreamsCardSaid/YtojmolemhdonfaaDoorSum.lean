/-
  What New, Clone and Sum answer, walked over the program's text. No statement of the seat is proved here.
-/
import Derived.Test.YtojmolemhdonfaaDoorWrite
namespace Go.Proofs.YtojmolemhdonfaaDoor
open Go.RowKit Kec

theorem info54 : (Tryd.prog.info? 54).map (·.size) = some 26 := by kernel_rfl
theorem load_hash {ops : Array Oper} {rest : List Oper} {o : Oper} {a : Act} {w : World} {Q : Exit → Act → World → Prop} {b : Nat} {f : Nat → W} {t : Int} (hB : HBlk w b f t) (hgd : o.guard = none) (x : Operand) (ho : o.op = .load 54 x)
    (hx : a.eval x = .pointer (some ⟨b, 0, none⟩)) (h : wpList Tryd.prog ops Q rest (a.put o.dst (.agg (hrow f t))) w) : wpList Tryd.prog ops Q (o :: rest) a w :=
  wpList_load_row hgd 54 x ho b hx 54 (hrow f t) (0, 0) _ hB Tryd.underlying54 rfl (by rw [hrow_size]; exact info54) h
theorem store_hash {ops : Array Oper} {rest : List Oper} {o : Oper} {a : Act} {w : World} {Q : Exit → Act → World → Prop} {b : Nat} {f g : Nat → W} {t t' : Int} (hB : HBlk w b g t') (hgd : o.guard = none) (x y : Operand) (ho : o.op = .store 54 x y)
    (hx : a.eval x = .pointer (some ⟨b, 0, none⟩)) (hy : a.eval y = .agg (hrow f t)) (h : wpList Tryd.prog ops Q rest (a.put o.dst undef) (w.setRow b (hrow f t))) : wpList Tryd.prog ops Q (o :: rest) a w :=
  wpList_store_row hgd 54 x y ho b (hrow f t) hx hy 54 (hrow g t') hB (by rw [hrow_size]; exact info54) (by rw [hrow_size, hrow_size]) (hrow_one _ _) h
abbrev z26 : Array Value := #[.int .u64 0, .int .u64 0, .int .u64 0, .int .u64 0, .int .u64 0, .int .u64 0, .int .u64 0, .int .u64 0, .int .u64 0, .int .u64 0, .int .u64 0, .int .u64 0, .int .u64 0, .int .u64 0, .int .u64 0, .int .u64 0, .int .u64 0, .int .u64 0, .int .u64 0, .int .u64 0, .int .u64 0, .int .u64 0, .int .u64 0, .int .u64 0, .int .u64 0, .int .i64 0]
theorem zeros26 : z26 = hrow (fun _ => 0) 0 := rfl

set_option maxRecDepth 100000 in
set_option maxHeartbeats 1000000 in
theorem new_any (w : World) :
    Calls Tryd.prog 19 #[] w fun e w' => e = .returned (.pointer (some ⟨w.heap.size, 0, none⟩)) ∧ HBlk w' w.heap.size (fun _ => 0) 0 ∧ Below w.heap.size w w' := by
  go_enter Tryd.func19, Tryd.ntmps19
  go_wp2
  go_ret
  refine ⟨rfl, ?_, (Below.refl _ _).alloc (Nat.le_refl _) _⟩
  show HBlk (w.alloc (.cells z26 54)) _ _ _
  rw [zeros26]
  exact HBlk.made _ _ _

set_option maxRecDepth 100000 in
set_option maxHeartbeats 1000000 in
theorem clone_any (b : Nat) (f : Nat → W) (t : Int) (w : World) (hB : HBlk w b f t) :
    Calls Tryd.prog 22 #[.pointer (some ⟨b, 0, none⟩)] w fun e w' => e = .returned (.pointer (some ⟨w.heap.size, 0, none⟩)) ∧ HBlk w' w.heap.size f t ∧ Below w.heap.size w w' := by
  have HB := Lib.hid hB
  clear hB
  go_enter Tryd.func22, Tryd.ntmps22
  have HN : Hid (HBlk (w.alloc (.cells z26 54)) w.heap.size (fun _ => 0) 0) := by show HBlk _ _ _ _; rw [zeros26]; exact HBlk.made _ _ _
  go_wp2_with (first | (refine load_hash HB.out rfl _ rfl rfl ?_) | (refine store_hash HN.out rfl _ _ rfl rfl rfl ?_))
  go_ret
  refine ⟨rfl, ?_, below_setRow ((Below.refl _ _).alloc (Nat.le_refl _) _) (Nat.le_refl _) _⟩
  exact setRow_heap _ _ _ _ 54 (0, 0) HN.out

abbrev z25 : Array Value := #[.int .u64 0, .int .u64 0, .int .u64 0, .int .u64 0, .int .u64 0, .int .u64 0, .int .u64 0, .int .u64 0, .int .u64 0, .int .u64 0, .int .u64 0, .int .u64 0, .int .u64 0, .int .u64 0, .int .u64 0, .int .u64 0, .int .u64 0, .int .u64 0, .int .u64 0, .int .u64 0, .int .u64 0, .int .u64 0, .int .u64 0, .int .u64 0, .int .u64 0]
abbrev z32 : Array Value := #[.int .u8 0, .int .u8 0, .int .u8 0, .int .u8 0, .int .u8 0, .int .u8 0, .int .u8 0, .int .u8 0, .int .u8 0, .int .u8 0, .int .u8 0, .int .u8 0, .int .u8 0, .int .u8 0, .int .u8 0, .int .u8 0, .int .u8 0, .int .u8 0, .int .u8 0, .int .u8 0, .int .u8 0, .int .u8 0, .int .u8 0, .int .u8 0, .int .u8 0, .int .u8 0, .int .u8 0, .int .u8 0, .int .u8 0, .int .u8 0, .int .u8 0, .int .u8 0]
theorem z25_eq : z25 = vec 25 (fun _ => 0) := rfl
/-- Byte number i of a state. -/
def outB (g : Nat → W) (i : Nat) : Nat := (g (i / 8) >>> (i % 8 * 8)).toNat % 256
/-- The bytes of the digest, as numbers. -/
def outs (g : Nat → W) : List Int := (List.range 32).map fun i => (outB g i : Int)
/-- The state whose bytes are the digest. -/
def lastS (s : (Nat → W) × Nat) : Nat → W := perm (flipS (flipS s.1 (s.2 % 136) 6) 135 128)
/-- The digest of what has been taken in. -/
def digS (s : (Nat → W) × Nat) : ByteArray := strOfNums (outs (lastS s))

/-- A row of bytes. -/
def brow (n : Nat) (h : Nat → Nat) : Array Value := ((List.range n).map fun i => Value.int .u8 (h i : Nat)).toArray
theorem brow_size (n : Nat) (h : Nat → Nat) : (brow n h).size = n := by simp [brow]
theorem brow_get {n i : Nat} (h : Nat → Nat) (hi : i < n) : (brow n h)[i]? = some (.int .u8 (h i : Nat)) := by simp [brow, hi]
theorem brow_ext {n : Nat} {A : Array Value} {h : Nat → Nat} (hs : A.size = n) (hA : ∀ i, i < n → A[i]? = some (.int .u8 (h i : Nat))) : A = brow n h := by
  apply Array.ext_getElem?
  intro j
  by_cases e : j < n
  · rw [hA j e, brow_get h e]
  · rw [Array.getElem?_eq_none (by omega), Array.getElem?_eq_none (by rw [brow_size]; omega)]
def BBlk (w : World) (b n : Nat) (t : TypeId) (h : Nat → Nat) : Prop := w.heap[b]? = some (.cells (brow n h) t (0, 0))
theorem BBlk.cell {w : World} {b n : Nat} {t : TypeId} {h : Nat → Nat} (hB : BBlk w b n t h) {i : Nat} (hi : i < n) : w.cell? ⟨b, i, none⟩ = some (.int .u8 (h i : Nat)) := by
  rw [cell_of_row w b i _ t (0, 0) hB, brow_get h hi]
theorem BBlk.frozen {w : World} {b n : Nat} {t : TypeId} {h : Nat → Nat} (hB : BBlk w b n t h) (i : Nat) : w.frozen? ⟨b, i, none⟩ = false := frozen_of_row w b i _ t hB
theorem BBlk.store {w : World} {b n : Nat} {t : TypeId} {h : Nat → Nat} (hB : BBlk w b n t h) {i : Nat} (hi : i < n) (v : Nat) : BBlk (w.setCell ⟨b, i, none⟩ (.int .u8 (v : Nat))) b n t (fun j => if j = i then v else h j) := by
  unfold BBlk
  rw [heap_setCell_same w b i _ t _ hB]
  congr 2
  apply brow_ext
  · rw [Array.size_setIfInBounds, brow_size]
  · intro j hj
    rw [Array.getElem?_setIfInBounds, brow_size]
    by_cases e : i = j
    · subst e; rw [if_pos rfl, if_pos hi, if_pos rfl]
    · rw [if_neg e, brow_get h hj, if_neg (fun x => e x.symm)]
theorem BBlk.lt {w : World} {b n : Nat} {t : TypeId} {h : Nat → Nat} (hB : BBlk w b n t h) : b < w.heap.size := (Array.getElem?_eq_some_iff.1 hB).1
theorem BBlk.below {w w' : World} {B b n : Nat} {t : TypeId} {h : Nat → Nat} (hB : BBlk w b n t h) (hb : Below B w w') (hlt : b < B) : BBlk w' b n t h := by
  unfold BBlk
  rw [hb.block b hlt]; exact hB
theorem BBlk.congr {w : World} {b n : Nat} {t : TypeId} {f g : Nat → Nat} (hB : BBlk w b n t f) (e : ∀ i, i < n → f i = g i) : BBlk w b n t g := by
  unfold BBlk at *
  rw [← brow_ext (brow_size n f) (fun i hi => by rw [brow_get f hi, e i hi])]; exact hB
/-- Places up to k filled. -/
def outTo (g : Nat → W) (k : Nat) : Nat → Nat := fun j => if j < k then outB g j else 0
theorem outTo_succ (g : Nat → W) (k j : Nat) : (if j = k then outB g k else outTo g k j) = outTo g (k + 1) j := by
  unfold outTo
  by_cases e : j = k
  · subst e; rw [if_pos rfl, if_pos (by omega)]
  · rw [if_neg e]
    by_cases h : j < k
    · rw [if_pos h, if_pos (by omega)]
    · rw [if_neg h, if_neg (by omega)]
theorem out_word (x : W) (n : Nat) : wv x / 2 ^ n % 256 = (((x >>> n).toNat % 256 : Nat) : Int) := by
  rw [wv_shr]
  unfold wv
  omega
theorem convert_out (w : World) (b : Nat) (g : Nat → W) (hB : BBlk w b 32 49 (outTo g 32)) : (convert 47 9 (.slice (some ⟨b, 0, none⟩) 32 32)).run Tryd.prog w = .ok (.string (strOfNums (outs g))) w :=
  run_convert_bytes_arg (P := Tryd.prog) w 47 5 Tryd.underlying47 Tryd.underlying5 b 0 32 32 (outs g) (by simp [outs]) (fun i hi => by
    rw [Nat.zero_add, hB.cell hi]
    have : (outs g).getD i 0 = (outB g i : Int) := by simp [outs, List.getD, hi]
    rw [this]
    unfold outTo
    rw [if_pos hi]) 9 Tryd.underlying9

theorem z32_eq : z32 = brow 32 (fun _ => 0) := rfl
set_option maxRecDepth 100000 in
set_option maxHeartbeats 2000000 in
theorem hsum_any (b : Nat) (f : Nat → W) (t : Nat) (w : World) (hB : HBlk w b f t) (hT : Tabs w) (ht : (t : Int) ≤ 4611686018427387904) :
    Calls Tryd.prog 20 #[.pointer (some ⟨b, 0, none⟩)] w fun e w' => e = .returned (.string (digS (f, t))) ∧ Below w.heap.size w w' := by
  have HB := Lib.hid hB; have HT := Lib.hid hT
  clear hB hT
  go_enter Tryd.func20, Tryd.ntmps20
  go_wp2_with fail
  refine (clone_any b f t w HB.out).mono ?_
  rintro e w1 ⟨rfl, hB1, hb1⟩
  have c1 := hB1.count
  have h1 := HT.out.lt
  have HB1 := Lib.hid hB1; have N1 := Lib.hid hb1
  have HT1 := Lib.hid (HT.out.below hb1 h1)
  clear hB1 hb1
  go_wp2_with fail
  refine (flip_any w.heap.size f t (t % 136) 6 w1 HB1.out (by omega) (by decide)).mono ?_
  rintro e w2 ⟨rfl, hB2, hm2⟩
  have HB2 := Lib.hid hB2
  have N2 := Lib.hid (hm2.below N1.out N1.out.size (Nat.le_refl _))
  have HT2 := Lib.hid (HT1.out.mod hm2 h1)
  clear hB2 hm2
  go_wp2_with fail
  refine (flip_any w.heap.size _ t 135 128 w2 HB2.out (by decide) (by decide)).mono ?_
  rintro e w3 ⟨rfl, hB3, hm3⟩
  have HB3 := Lib.hid hB3
  have N3 := Lib.hid (hm3.below N2.out N2.out.size (Nat.le_refl _))
  have HT3 := Lib.hid (HT2.out.mod hm3 h1)
  clear hB3 hm3
  go_wp2_with (refine load_state HB3.out rfl _ rfl rfl ?_)
  refine (perm_any _ w3 HT3.out.1 HT3.out.2).mono ?_
  rintro e w4 ⟨rfl, hb4⟩
  have N4 := Lib.hid (N3.out.trans (hb4.mono N3.out.size))
  have z4 : w.heap.size < w4.heap.size := by have := HB3.out.lt; have := hb4.size; omega
  clear hb4
  have HZ : Hid (Blk (w4.alloc (.cells z25 23)) w4.heap.size 25 23 (fun _ => 0)) := by show Blk _ _ _ _ _; rw [z25_eq]; exact Blk.made _ _ _ _
  have HB5 : Hid (Blk ((w4.alloc (.cells z25 23)).setRow w4.heap.size (vec 25 (lastS (f, t)))) w4.heap.size 25 23 (lastS (f, t))) := HZ.out.row _
  have N5 : Hid (Below w.heap.size w (((w4.alloc (.cells z25 23)).setRow w4.heap.size (vec 25 (lastS (f, t)))).alloc (.cells z32 49))) := by
    show Below _ _ _
    exact (below_setRow (N4.out.alloc (by omega) _) (by omega) _).alloc (by rw [size_setRow, World.size_alloc]; omega) _
  have HB6 : Hid (BBlk (((w4.alloc (.cells z25 23)).setRow w4.heap.size (vec 25 (lastS (f, t)))).alloc (.cells z32 49)) (w4.heap.size + 1) 32 49 (fun _ => 0)) := by
    show BBlk _ _ _ _ _
    rw [z32_eq]
    have h := heap_alloc_new ((w4.alloc (.cells z25 23)).setRow w4.heap.size (vec 25 (lastS (f, t)))) (.cells (brow 32 fun _ => 0) 49)
    rw [size_setRow, World.size_alloc] at h
    exact h
  go_wp2_with (refine store_blk HZ.out rfl _ _ rfl rfl rfl ?_)
  go_loopw [23] (fun i wr => ∃ k : Nat, k ≤ 32 ∧ i = .int .i64 k ∧ Below w.heap.size w wr ∧ Blk wr w4.heap.size 25 23 (lastS (f, t)) ∧ BBlk wr (w4.heap.size + 1) 32 49 (outTo (lastS (f, t)) k)) (fun i _ => 32 - (intOf i).toNat)
  case atStart =>
    refine ⟨0, by omega, rfl, N5.out, HB5.out.alloc _, HB6.out.congr fun i _ => ?_⟩
    unfold outTo; rw [if_neg (by omega)]
  case round =>
    clear N5 HB6
    obtain ⟨k, hk, rfl, hb, b0, b1⟩ := hrel
    by_cases hlt : k < 32
    · have c0 := b0.cell (i := k / 8) (by omega)
      have c1 := b1.cell (i := k) hlt
      have c2 := b1.frozen k
      have HW := Lib.hid (out_word (lastS (f, t) (k / 8)) (k % 8 * 8))
      go_wp2
      rw [HW.out]
      go_roundw
      case rel =>
        refine ⟨k + 1, by omega, by go_num, hb.setCell (p := ⟨w4.heap.size + 1, k, none⟩) (by show _ ≤ w4.heap.size + 1; omega) _, b0.other (a := ⟨w4.heap.size + 1, k, none⟩) (by show _ ≠ w4.heap.size + 1; omega) _, ?_⟩
        exact (b1.store hlt (outB (lastS (f, t)) k)).congr fun j _ => outTo_succ _ k j
      case measure => simp [intOf]; omega
    · obtain rfl : k = 32 := by omega
      clear hlt
      have hcv := convert_out wr (w4.heap.size + 1) (lastS (f, t)) b1
      have HB7 := Lib.hid hb
      clear hb b0 b1
      go_wp2
      go_ret
      exact ⟨rfl, HB7.out⟩

theorem ret_str {a b : ByteArray} (h : a = b) : Ending.returned (.string a) = .returned (.string b) := by rw [h]
/-- A hash that has taken in nothing. -/
def init : (Nat → W) × Nat := (fun _ => 0, 0)
/-- The digest of a string. -/
def sumS (s : ByteArray) : ByteArray := digS (absorb init s.data.toList)

set_option maxRecDepth 100000 in
set_option maxHeartbeats 2000000 in
theorem sum_any (s : ByteArray) (w : World) (hT : Tabs w) (hs : (s.size : Int) ≤ 4611686018427387904) :
    Calls Tryd.prog 13 #[.string s] w fun e w' => e = .returned (.string (sumS s)) ∧ Below w.heap.size w w' := by
  have HT := Lib.hid hT
  clear hT
  go_enter Tryd.func13, Tryd.ntmps13
  go_wp2_with fail
  refine (new_any w).mono ?_
  rintro e w1 ⟨rfl, hB1, hb1⟩
  have h1 := HT.out.lt
  have HB1 := Lib.hid hB1; have N1 := Lib.hid hb1
  have HT1 := Lib.hid (HT.out.below hb1 h1)
  clear hB1 hb1
  have hlt1 : w.heap.size < w1.heap.size := HB1.out.lt
  have NA := Lib.hid ((Below.refl w1.heap.size w1).alloc (Nat.le_refl _) (.cells #[.string s] 9))
  have HBA := Lib.hid (HB1.out.below NA.out hlt1)
  have HTA := Lib.hid (HT1.out.below NA.out (by omega))
  have hcell : ∀ i (h : i < [s].length), (w1.alloc (.cells #[.string s] 9)).cell? ⟨w1.heap.size, 0 + i, none⟩ = some (.string [s][i]) := by
    intro i h
    obtain rfl : i = 0 := by simp at h; omega
    rw [World.cell?_alloc_mark]; rfl
  have HCL := Lib.hid hcell
  have hjoin : join [s] = s.data.toList := by simp [join]
  have HJ := Lib.hid hjoin
  clear hcell hjoin
  go_wp2_with fail
  refine (write_any w.heap.size (fun _ => 0) 0 _ w1.heap.size 0 1 [s] _ HBA.out HTA.out h1 rfl HCL.out (by omega) (by simp) (by rw [HJ.out]; simpa using hs)).mono ?_
  rintro e w2 ⟨rfl, hB2, hm2⟩
  rw [HJ.out] at hB2
  have N2 := Lib.hid (hm2.below (N1.out.trans (NA.out.mono N1.out.size)) (by have := N1.out.size; simp; omega) (Nat.le_refl _))
  have HB2 := Lib.hid hB2
  have HT2 := Lib.hid (HTA.out.mod hm2 h1)
  clear hB2 hm2
  have hcnt : (((absorb (fun _ => 0, 0) s.data.toList).2 : Nat) : Int) ≤ 4611686018427387904 := by
    rw [absorb_count]
    simpa using hs
  have HN := Lib.hid hcnt
  clear hcnt
  go_wp2_with fail
  refine (hsum_any w.heap.size _ _ w2 HB2.out HT2.out HN.out).mono ?_
  rintro e w3 ⟨rfl, hb3⟩
  have N3 := Lib.hid (N2.out.trans (hb3.mono N2.out.size))
  clear hb3
  go_wp2
  go_ret
  exact ⟨rfl, N3.out⟩
end Go.Proofs.YtojmolemhdonfaaDoor
