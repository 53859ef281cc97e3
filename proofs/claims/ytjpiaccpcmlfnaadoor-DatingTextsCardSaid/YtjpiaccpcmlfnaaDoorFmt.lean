/-
  What Format answers. No statement of the seat is proved here.
-/
import Derived.Test.YtjpiaccpcmlfnaaDoorFm
namespace Go.Proofs.YtjpiaccpcmlfnaaDoor
open Go.RowKit Cal
open Classical

/-- The text of a valid dating. -/
noncomputable def fmtS (a b : Int) : ByteArray :=
  if a = 0 ∧ b = 1048575 then unk
  else if jusB (dayS a) a b = true then jusS (dayS a) a b
  else if a = 0 then bef ++ begS (dayS (b + 1)) (b + 1)
  else if b = 1048575 then aft ++ endS (dayS (a - 1)) (a - 1)
  else begS (dayS a) a ++ sl ++ endS (dayS b) b

theorem ext_size (s : ByteArray) (k : Nat) : (s.extract 0 k).size ≤ k := by simp [ByteArray.size_extract]; omega
theorem begS_size (s : ByteArray) (n : Int) : (begS s n).size ≤ 10 := by
  have a := ext_size s 4; have b := ext_size s 7; have c := ext_size s 10
  unfold begS; split
  · omega
  · split <;> omega
theorem endS_size (s : ByteArray) (n : Int) : (endS s n).size ≤ 10 := by
  have a := ext_size s 4; have b := ext_size s 7; have c := ext_size s 10
  unfold endS; split
  · omega
  · split <;> omega

theorem own3 (w : World) (x y : Value) (t : TypeId) (o o' : Obj) :
    (((w.alloc (.cells #[x, y] t)).alloc o).alloc o').drew.cell? ⟨w.heap.size, 0, none⟩ = some x ∧ (((w.alloc (.cells #[x, y] t)).alloc o).alloc o').drew.cell? ⟨w.heap.size, 1, none⟩ = some y := by
  have h1 : w.heap.size < (w.alloc (.cells #[x, y] t)).heap.size := by simp
  have h2 : w.heap.size < ((w.alloc (.cells #[x, y] t)).alloc o).heap.size := by simp; omega
  refine ⟨?_, ?_⟩
  · exact (World.cell?_alloc_lt _ o' ⟨w.heap.size, 0, none⟩ h2).trans ((World.cell?_alloc_lt _ o ⟨w.heap.size, 0, none⟩ h1).trans (World.cell?_alloc_new _ _ _ _))
  · exact (World.cell?_alloc_lt _ o' ⟨w.heap.size, 1, none⟩ h2).trans ((World.cell?_alloc_lt _ o ⟨w.heap.size, 1, none⟩ h1).trans (World.cell?_alloc_new _ _ _ _))

set_option maxHeartbeats 4000000 in
theorem Format_just (a b : Int) (w : World) (hT : Table w) (h1 : 0 ≤ a) (h2 : a ≤ b) (h3 : b ≤ 1048575) (ha : (a == 0) = false) (hj : jusB (dayS a) a b = true) :
    Calls Tryd.prog 24 #[.agg #[.int .i64 a, .int .i64 b]] w fun e w' => e = .returned (.tuple #[.string (jusS (dayS a) a b), .int .i64 0]) ∧ Below w.heap.size w w' := by
  have HT := Lib.hid hT
  have HJ := Lib.hid hj
  have hlt := hT.lt
  clear hT hj
  go_enter Tryd.func24, Tryd.ntmps24
  go_wp2
  go_region_calls
  all_goals
    go_wp2_with fail
    refine (longest_just a a b w.heap.size _ (HT.out.below (by go_grown)) (by omega) (by omega) (own3 _ _ _ _ _ _).1 (own3 _ _ _ _ _ _).2).mono ?_
    rintro e w1 ⟨rfl, hb1⟩
    rw [HJ.out]
    have B1 : Hid (Below w.heap.size w w1) := (Below.trans (by go_grown) (hb1.mono (by simp; omega)))
    clear hb1
    go_wp2_with fail
    go_ret2
    exact ⟨rfl, B1.out⟩
end Go.Proofs.YtjpiaccpcmlfnaaDoor
