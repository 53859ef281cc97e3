/-
  Words of 64 bits as the program's numbers, and blocks of memory that hold rows of them. No statement of the seat is proved here.
-/
import Derived.Test.YtojmolemhdonfaaDoorRows
import Derived.Test.YtojmolemhdonfaaDoorKeccak
import Derived.WalkKit
import Derived.WalkSpells
import Derived.WalkLawsBesides
import Derived.Lib.Hide
import Derived.Handy
import Derived.Deep.WholeRow
import Derived.Deep.MidRow
import Derived.Laws.BitsAllLaws
namespace Go.Proofs.YtojmolemhdonfaaDoor
open Go.RowKit Kec

/-- A word as a number of the program. -/
def wv (x : W) : Int := (x.toNat : Int)
theorem wv_lo (x : W) : 0 ≤ wv x := by unfold wv; omega
theorem wv_hi (x : W) : wv x < 18446744073709551616 := by unfold wv; have := x.isLt; omega
theorem wv_inj {x y : W} (h : wv x = wv y) : x = y := by
  apply BitVec.eq_of_toNat_eq
  unfold wv at h; omega
theorem wv_xor (x y : W) : bits .xor .u64 (wv x) (wv y) = wv (x ^^^ y) := by
  unfold wv
  rw [u64_xor_nat _ _ x.isLt y.isLt, BitVec.toNat_xor]
theorem wv_and (x y : W) : bits .and .u64 (wv x) (wv y) = wv (x &&& y) := by
  unfold wv
  rw [u64_and_nat _ _ x.isLt y.isLt, BitVec.toNat_and]
theorem wv_or (x y : W) : bits .or .u64 (wv x) (wv y) = wv (x ||| y) := by
  unfold wv
  rw [u64_or_nat _ _ x.isLt y.isLt, BitVec.toNat_or]
theorem wv_zero : wv 0 = 0 := rfl
theorem wv_shl (x : W) (n : Nat) : IntKind.u64.wrap (wv x * 2 ^ n) = wv (x <<< n) := by
  unfold wv
  rw [BitVec.toNat_shiftLeft, Nat.shiftLeft_eq, IntKind.wrap_u64]
  rw [show ((2 : Int) ^ n) = ((2 ^ n : Nat) : Int) from by simp, ← Int.natCast_mul]
  omega
theorem wv_shr (x : W) (n : Nat) : wv x / 2 ^ n = wv (x >>> n) := by
  unfold wv
  rw [BitVec.toNat_ushiftRight, Nat.shiftRight_eq_div_pow]
  rw [show ((2 : Int) ^ n) = ((2 ^ n : Nat) : Int) from by simp, ← Int.natCast_ediv]
theorem wv_rotl (x : W) (n : Nat) : bits .or .u64 (IntKind.u64.wrap (wv x * 2 ^ n)) (wv x / 2 ^ (64 - n)) = wv (rotl x n) := by
  rw [wv_shl, wv_shr, wv_or]; rfl

/-- The first n words of a row, as cells. -/
def vec (n : Nat) (f : Nat → W) : Array Value := ((List.range n).map fun i => Value.int .u64 (wv (f i))).toArray
theorem vec_size (n : Nat) (f : Nat → W) : (vec n f).size = n := by simp [vec]
theorem vec_get {n i : Nat} (f : Nat → W) (h : i < n) : (vec n f)[i]? = some (.int .u64 (wv (f i))) := by
  simp [vec, h]
theorem vec_congr {n : Nat} {f g : Nat → W} (h : ∀ i, i < n → f i = g i) : vec n f = vec n g := by
  unfold vec
  congr 1
  apply List.map_congr_left
  intro i hi
  rw [h i (by simpa using hi)]
theorem vec_set {n i : Nat} (f : Nat → W) (v : W) : (vec n f).setIfInBounds i (.int .u64 (wv v)) = vec n (upd f i v) := by
  apply Array.ext_getElem?
  intro j
  rw [Array.getElem?_setIfInBounds]
  by_cases hj : j < n
  · rw [vec_get _ hj]
    by_cases e : i = j
    · subst e
      rw [if_pos rfl, if_pos (by rw [vec_size]; exact hj)]
      rw [vec_get _ hj]; unfold upd; rw [if_pos rfl]
    · rw [if_neg e, vec_get _ hj]
      unfold upd; rw [if_neg (fun x => e x.symm)]
  · have h1 : (vec n (upd f i v))[j]? = none := by rw [Array.getElem?_eq_none]; rw [vec_size]; omega
    have h2 : (vec n f)[j]? = none := by rw [Array.getElem?_eq_none]; rw [vec_size]; omega
    rw [h1, h2]
    by_cases e : i = j
    · subst e; rw [if_pos rfl, if_neg (by rw [vec_size]; omega)]
    · rw [if_neg e]
theorem vec_inj {n : Nat} {f g : Nat → W} (h : vec n f = vec n g) : ∀ i, i < n → f i = g i := by
  intro i hi
  have e : (vec n f)[i]? = (vec n g)[i]? := by rw [h]
  rw [vec_get f hi, vec_get g hi] at e
  simp only [Option.some.injEq, Value.int.injEq, true_and] at e
  exact wv_inj e
theorem vec_one (n : Nat) (f : Nat → W) : (vec n f).all (·.oneCell') = true := by
  rw [Array.all_eq_true_iff_forall_mem]
  intro x hx
  simp only [vec, List.mem_toArray, List.mem_map] at hx
  obtain ⟨i, _, rfl⟩ := hx
  rfl
theorem zeros5 : (#[.int .u64 0, .int .u64 0, .int .u64 0, .int .u64 0, .int .u64 0] : Array Value) = vec 5 (fun _ => 0) := rfl
theorem zeros25 : (#[.int .u64 0, .int .u64 0, .int .u64 0, .int .u64 0, .int .u64 0, .int .u64 0, .int .u64 0, .int .u64 0, .int .u64 0, .int .u64 0, .int .u64 0, .int .u64 0, .int .u64 0, .int .u64 0, .int .u64 0, .int .u64 0, .int .u64 0, .int .u64 0, .int .u64 0, .int .u64 0, .int .u64 0, .int .u64 0, .int .u64 0, .int .u64 0, .int .u64 0] : Array Value) = vec 25 (fun _ => 0) := rfl

/-- Block b holds the first n words of f. -/
def Blk (w : World) (b n : Nat) (t : TypeId) (f : Nat → W) : Prop := w.heap[b]? = some (.cells (vec n f) t (0, 0))
theorem Blk.cell {w : World} {b n : Nat} {t : TypeId} {f : Nat → W} (h : Blk w b n t f) {i : Nat} (hi : i < n) : w.cell? ⟨b, i, none⟩ = some (.int .u64 (wv (f i))) := by
  rw [cell_of_row w b i _ t (0, 0) h, vec_get f hi]
theorem Blk.frozen {w : World} {b n : Nat} {t : TypeId} {f : Nat → W} (h : Blk w b n t f) (i : Nat) : w.frozen? ⟨b, i, none⟩ = false := frozen_of_row w b i _ t h
theorem Blk.store {w : World} {b n : Nat} {t : TypeId} {f : Nat → W} (h : Blk w b n t f) (i : Nat) (v : W) : Blk (w.setCell ⟨b, i, none⟩ (.int .u64 (wv v))) b n t (upd f i v) := by
  unfold Blk
  rw [heap_setCell_same w b i _ t _ h, vec_set]
theorem Blk.other {w : World} {b n : Nat} {t : TypeId} {f : Nat → W} (h : Blk w b n t f) {a : Addr} (hb : b ≠ a.block) (v : Value) : Blk (w.setCell a v) b n t f := by
  unfold Blk
  rw [heap_setCell_other w a b v hb]; exact h
theorem Blk.drew {w : World} {b n : Nat} {t : TypeId} {f : Nat → W} (h : Blk w b n t f) : Blk w.drew b n t f := h
theorem Blk.drewN {w : World} {b n : Nat} {t : TypeId} {f : Nat → W} (h : Blk w b n t f) (q : Nat) : Blk (w.drewN q) b n t f := h
theorem Blk.lt {w : World} {b n : Nat} {t : TypeId} {f : Nat → W} (h : Blk w b n t f) : b < w.heap.size := (Array.getElem?_eq_some_iff.1 h).1
theorem Blk.alloc {w : World} {b n : Nat} {t : TypeId} {f : Nat → W} (h : Blk w b n t f) (o : Obj) : Blk (w.alloc o) b n t f := by
  unfold Blk
  rw [Below.heap_alloc w o b h.lt]; exact h
theorem Blk.made (w : World) (n : Nat) (t : TypeId) (f : Nat → W) : Blk (w.alloc (.cells (vec n f) t)) w.heap.size n t f := heap_alloc_new w _
theorem Blk.below {w w' : World} {B b n : Nat} {t : TypeId} {f : Nat → W} (h : Blk w b n t f) (hb : Below B w w') (hB : b < B) : Blk w' b n t f := by
  unfold Blk
  rw [hb.block b hB]; exact h
theorem Blk.congr {w : World} {b n : Nat} {t : TypeId} {f g : Nat → W} (h : Blk w b n t f) (e : ∀ i, i < n → f i = g i) : Blk w b n t g := by
  unfold Blk at *
  rw [← vec_congr e]; exact h
theorem ret_u64 {a b : Int} (h : a = b) : Ending.returned (.int .u64 a) = .returned (.int .u64 b) := by rw [h]
theorem and63 (n : Nat) (h : (n : Int) ≤ 63) : bits BinOp.and IntKind.u64 (n : Int) 63 = (n : Int) := by
  have := u64_and_nat n 63 (by omega) (by omega)
  rw [show ((63 : Nat) : Int) = 63 from rfl] at this
  rw [this, show (63 : Nat) = 2 ^ 6 - 1 from rfl, Nat.and_two_pow_sub_one_eq_mod]
  omega
theorem info23 : (Tryd.prog.info? 23).map (·.size) = some 25 := by kernel_rfl
theorem Blk.row {w : World} {b n : Nat} {t : TypeId} {f : Nat → W} (h : Blk w b n t f) (g : Nat → W) : Blk (w.setRow b (vec n g)) b n t g := setRow_heap w b _ _ t (0, 0) h
theorem Blk.rowOther {w : World} {b n : Nat} {t : TypeId} {f : Nat → W} (h : Blk w b n t f) {c : Nat} (hc : b ≠ c) (cs : Array Value) : Blk (w.setRow c cs) b n t f := by
  unfold Blk
  rw [setRow_other w c b cs hc]; exact h
/-- A whole state, out of its block. -/
theorem load_blk {ops : Array Oper} {rest : List Oper} {o : Oper} {a : Act} {w : World} {Q : Exit → Act → World → Prop} {b : Nat} {f : Nat → W} (hB : Blk w b 25 23 f) (hgd : o.guard = none) (x : Operand) (ho : o.op = .load 23 x)
    (hx : a.eval x = .pointer (some ⟨b, 0, none⟩)) (h : wpList Tryd.prog ops Q rest (a.put o.dst (.agg (vec 25 f))) w) : wpList Tryd.prog ops Q (o :: rest) a w :=
  wpList_load_row hgd 23 x ho b hx 23 (vec 25 f) (0, 0) _ hB Tryd.underlying23 rfl (by rw [vec_size]; exact info23) h
/-- A whole state, into its block. -/
theorem store_blk {ops : Array Oper} {rest : List Oper} {o : Oper} {a : Act} {w : World} {Q : Exit → Act → World → Prop} {b : Nat} {g f : Nat → W} (hB : Blk w b 25 23 g) (hgd : o.guard = none) (x y : Operand) (ho : o.op = .store 23 x y)
    (hx : a.eval x = .pointer (some ⟨b, 0, none⟩)) (hy : a.eval y = .agg (vec 25 f)) (h : wpList Tryd.prog ops Q rest (a.put o.dst undef) (w.setRow b (vec 25 f))) : wpList Tryd.prog ops Q (o :: rest) a w :=
  wpList_store_row hgd 23 x y ho b (vec 25 f) hx hy 23 (vec 25 g) hB (by rw [vec_size]; exact info23) (by rw [vec_size, vec_size]) (vec_one _ _) h
/-- A function whose result is a state in a block of its own. -/
theorem result_blk {fn : Func} {p : Tmp} (h : fn.results = #[.cell p 23]) (tmps : Array Value) {w : World} {b : Nat} {f : Nat → W} (hp : tmps.getD p undef = .pointer (some ⟨b, 0, none⟩)) (hB : Blk w b 25 23 f) :
    (results fn tmps).run Tryd.prog w = .ok (.agg (vec 25 f)) w :=
  results_cell_row h tmps w b 23 (vec 25 f) (0, 0) _ hp hB Tryd.underlying23 rfl (by rw [vec_size]; exact info23)
theorem ret_vec {n : Nat} {f g : Nat → W} (h : ∀ i, i < n → f i = g i) : Ending.returned (.agg (vec n f)) = .returned (.agg (vec n g)) := by rw [vec_congr h]
end Go.Proofs.YtojmolemhdonfaaDoor
