/-
  A hash in memory: a block of 25 words and a count; what flip answers. No statement of the seat is proved here.
-/
import Derived.Test.YtojmolemhdonfaaDoorPerm
import Derived.Laws.IdiomCopy
namespace Go.Proofs.YtojmolemhdonfaaDoor
open Go.RowKit Kec

/-- Nothing that was there has turned but block b. -/
structure Mod (b : Nat) (w w' : World) : Prop where
  os : w'.os = w.os
  tape : w'.tape = w.tape
  output : w'.output = w.output
  size : w.heap.size ≤ w'.heap.size
  block : ∀ k, k < w.heap.size → k ≠ b → w'.heap[k]? = w.heap[k]?
theorem Mod.refl (b : Nat) (w : World) : Mod b w w := ⟨rfl, rfl, rfl, Nat.le_refl _, fun _ _ _ => rfl⟩
theorem Mod.trans {b : Nat} {x y z : World} (h : Mod b x y) (k : Mod b y z) : Mod b x z :=
  ⟨k.os.trans h.os, k.tape.trans h.tape, k.output.trans h.output, Nat.le_trans h.size k.size, fun i hi hb => (k.block i (Nat.lt_of_lt_of_le hi h.size) hb).trans (h.block i hi hb)⟩
theorem Mod.of_below {b : Nat} {w w' : World} (h : Below w.heap.size w w') : Mod b w w' := ⟨h.os, h.tape, h.output, h.size, fun k hk _ => h.block k hk⟩
theorem Mod.setCell {w w' : World} {a : Addr} (h : Mod a.block w w') (v : Value) : Mod a.block w (w'.setCell a v) :=
  h.trans ⟨rfl, rfl, rfl, by simp [World.setCell], fun k _ hk => Below.heap_setCell _ _ _ _ (by omega)⟩
theorem Mod.drew {b : Nat} {w w' : World} (h : Mod b w w') : Mod b w w'.drew := ⟨h.os, h.tape, h.output, h.size, h.block⟩
theorem Mod.drewN {b : Nat} {w w' : World} (h : Mod b w w') (q : Nat) : Mod b w (w'.drewN q) := h.trans ⟨rfl, rfl, rfl, Nat.le_refl _, fun _ _ _ => rfl⟩
/-- Of a block made by the call itself nothing old has turned. -/
theorem Mod.below {b B : Nat} {w0 w w' : World} (h : Mod b w w') (h0 : Below B w0 w) (hB : B ≤ w.heap.size) (hb : B ≤ b) : Below B w0 w' :=
  h0.trans ⟨h.os, h.tape, h.output, h.size, fun k hk => h.block k (by omega) (by omega)⟩
theorem Blk.mod {w w' : World} {b c n : Nat} {t : TypeId} {f : Nat → W} (h : Blk w c n t f) (m : Mod b w w') (hc : c ≠ b) : Blk w' c n t f := by
  unfold Blk
  rw [m.block c h.lt hc]; exact h
theorem cell_mod {b : Nat} {w w' : World} (m : Mod b w w') {a : Addr} (ha : a.block < w.heap.size) (hb : a.block ≠ b) : w'.cell? a = w.cell? a := World.cell?_of_block (w := w) (m.block a.block ha hb)

/-- The package's tables are there. -/
def Tabs (w : World) : Prop := Rots w ∧ Consts w
theorem Tabs.lt {w : World} (h : Tabs w) : 1 < w.heap.size := h.1.lt
theorem Tabs.below {w w' : World} {B : Nat} (h : Tabs w) (hb : Below B w w') (hB : 1 < B) : Tabs w' := ⟨h.1.below hb hB, h.2.below hb hB⟩
theorem Tabs.mod {w w' : World} {b : Nat} (h : Tabs w) (m : Mod b w w') (hb : 1 < b) : Tabs w' :=
  ⟨fun i hi => (cell_mod m (a := ⟨1, i, none⟩) h.lt (by show 1 ≠ b; omega)).trans (h.1 i hi), fun i hi => (cell_mod m (a := ⟨0, i, none⟩) (by have := h.lt; show 0 < w.heap.size; omega) (by show 0 ≠ b; omega)).trans (h.2 i hi)⟩

/-- The cells of a hash: its state, its count. -/
def hrow (f : Nat → W) (t : Int) : Array Value := (vec 25 f).push (.int .i64 t)
theorem hrow_size (f : Nat → W) (t : Int) : (hrow f t).size = 26 := by simp [hrow, vec_size]
theorem hrow_get {i : Nat} (f : Nat → W) (t : Int) (h : i < 25) : (hrow f t)[i]? = some (.int .u64 (wv (f i))) := by
  unfold hrow
  rw [Array.getElem?_push, if_neg (by rw [vec_size]; omega), vec_get f h]
theorem hrow_count (f : Nat → W) (t : Int) : (hrow f t)[25]? = some (.int .i64 t) := by
  unfold hrow
  rw [Array.getElem?_push, if_pos (by rw [vec_size])]
theorem hrow_ext {A : Array Value} {f : Nat → W} {t : Int} (hs : A.size = 26) (h : ∀ i, i < 25 → A[i]? = some (.int .u64 (wv (f i)))) (hc : A[25]? = some (.int .i64 t)) : A = hrow f t := by
  apply Array.ext_getElem?
  intro j
  rcases (show j < 25 ∨ j = 25 ∨ 26 ≤ j by omega) with e | e | e
  · rw [h j e, hrow_get f t e]
  · subst e; rw [hc, hrow_count]
  · rw [Array.getElem?_eq_none (by omega), Array.getElem?_eq_none (by rw [hrow_size]; omega)]
theorem hrow_set {i : Nat} (f : Nat → W) (t : Int) (v : W) (hi : i < 25) : (hrow f t).setIfInBounds i (.int .u64 (wv v)) = hrow (upd f i v) t := by
  apply hrow_ext
  · simp [hrow_size]
  · intro j hj
    rw [Array.getElem?_setIfInBounds, hrow_size]
    by_cases e : i = j
    · subst e; rw [if_pos rfl, if_pos (by omega), upd_same]
    · rw [if_neg e, hrow_get f t hj, upd_other _ _ (fun x => e x.symm)]
  · rw [Array.getElem?_setIfInBounds, if_neg (by omega), hrow_count]
theorem hrow_setCount (f : Nat → W) (t t' : Int) : (hrow f t).setIfInBounds 25 (.int .i64 t') = hrow f t' := by
  apply hrow_ext
  · simp [hrow_size]
  · intro j hj
    rw [Array.getElem?_setIfInBounds, if_neg (by omega), hrow_get f t hj]
  · rw [Array.getElem?_setIfInBounds, if_pos rfl, if_pos (by rw [hrow_size]; omega)]
theorem hrow_one (f : Nat → W) (t : Int) : (hrow f t).all (·.oneCell') = true := by
  rw [Array.all_eq_true_iff_forall_mem]
  intro x hx
  unfold hrow at hx
  rw [Array.mem_push] at hx
  rcases hx with hx | hx
  · exact Array.all_eq_true_iff_forall_mem.1 (vec_one 25 f) x hx
  · subst hx; rfl
theorem hrow_congr {f g : Nat → W} {t : Int} (h : ∀ i, i < 25 → f i = g i) : hrow f t = hrow g t := by unfold hrow; rw [vec_congr h]

/-- Block b is a hash with state f that has taken in t bytes. -/
def HBlk (w : World) (b : Nat) (f : Nat → W) (t : Int) : Prop := w.heap[b]? = some (.cells (hrow f t) 54 (0, 0))
theorem HBlk.cell {w : World} {b : Nat} {f : Nat → W} {t : Int} (h : HBlk w b f t) {i : Nat} (hi : i < 25) : w.cell? ⟨b, i, none⟩ = some (.int .u64 (wv (f i))) := by
  rw [cell_of_row w b i _ 54 (0, 0) h, hrow_get f t hi]
theorem HBlk.count {w : World} {b : Nat} {f : Nat → W} {t : Int} (h : HBlk w b f t) : w.cell? ⟨b, 25, none⟩ = some (.int .i64 t) := by
  rw [cell_of_row w b 25 _ 54 (0, 0) h, hrow_count]
theorem HBlk.frozen {w : World} {b : Nat} {f : Nat → W} {t : Int} (h : HBlk w b f t) (i : Nat) : w.frozen? ⟨b, i, none⟩ = false := frozen_of_row w b i _ 54 h
theorem HBlk.store {w : World} {b : Nat} {f : Nat → W} {t : Int} (h : HBlk w b f t) {i : Nat} (hi : i < 25) (v : W) : HBlk (w.setCell ⟨b, i, none⟩ (.int .u64 (wv v))) b (upd f i v) t := by
  unfold HBlk
  rw [heap_setCell_same w b i _ 54 _ h, hrow_set f t v hi]
theorem HBlk.storeCount {w : World} {b : Nat} {f : Nat → W} {t : Int} (h : HBlk w b f t) (t' : Int) : HBlk (w.setCell ⟨b, 25, none⟩ (.int .i64 t')) b f t' := by
  unfold HBlk
  rw [heap_setCell_same w b 25 _ 54 _ h, hrow_setCount]
theorem HBlk.drew {w : World} {b : Nat} {f : Nat → W} {t : Int} (h : HBlk w b f t) : HBlk w.drew b f t := h
theorem HBlk.lt {w : World} {b : Nat} {f : Nat → W} {t : Int} (h : HBlk w b f t) : b < w.heap.size := (Array.getElem?_eq_some_iff.1 h).1
theorem HBlk.below {w w' : World} {B b : Nat} {f : Nat → W} {t : Int} (h : HBlk w b f t) (hb : Below B w w') (hB : b < B) : HBlk w' b f t := by
  unfold HBlk
  rw [hb.block b hB]; exact h
theorem HBlk.mod {w w' : World} {b c : Nat} {f : Nat → W} {t : Int} (h : HBlk w c f t) (m : Mod b w w') (hc : c ≠ b) : HBlk w' c f t := by
  unfold HBlk
  rw [m.block c h.lt hc]; exact h
theorem HBlk.alloc {w : World} {b : Nat} {f : Nat → W} {t : Int} (h : HBlk w b f t) (o : Obj) : HBlk (w.alloc o) b f t := by
  unfold HBlk
  rw [Below.heap_alloc w o b h.lt]; exact h
theorem HBlk.made (w : World) (f : Nat → W) (t : Int) : HBlk (w.alloc (.cells (hrow f t) 54)) w.heap.size f t := heap_alloc_new w _
theorem HBlk.congr {w : World} {b : Nat} {f g : Nat → W} {t : Int} (h : HBlk w b f t) (e : ∀ i, i < 25 → f i = g i) : HBlk w b g t := by
  unfold HBlk at *
  rw [← hrow_congr e]; exact h
theorem HBlk.range {w : World} {b : Nat} {f : Nat → W} {t : Int} (h : HBlk w b f t) : w.rangeAt b 0 (vec 25 f).toList := fun j v hv => by
  rw [Array.getElem?_toList] at hv
  have hj : j < 25 := by
    rcases (show j < 25 ∨ 25 ≤ j by omega) with e | e
    · exact e
    · rw [Array.getElem?_eq_none (by rw [vec_size]; omega)] at hv; cases hv
  rw [vec_get f hj] at hv
  rw [Nat.zero_add, h.cell hj, hv]
theorem HBlk.there {w : World} {b : Nat} {f : Nat → W} {t : Int} (h : HBlk w b f t) : w.there b 0 25 := fun j hj => by
  rw [Nat.zero_add, h.cell hj]
  exact ⟨rfl, h.frozen j⟩

/-- A byte as a word. -/
def bw (c : Nat) : W := BitVec.ofNat 64 c
theorem wv_bw {c : Nat} (h : c < 256) : (c : Int) = wv (bw c) := by
  unfold wv bw
  rw [BitVec.toNat_ofNat, Nat.mod_eq_of_lt (by omega)]
/-- A byte exclusive-ored into a state at a place. -/
def flipS (f : Nat → W) (at_ c : Nat) : Nat → W := upd f (at_ / 8) (f (at_ / 8) ^^^ (bw c <<< (at_ % 8 * 8)))
end Go.Proofs.YtojmolemhdonfaaDoor
