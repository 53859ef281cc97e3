/-
  What Format answers for a dating with two ends. No statement of the seat is proved here.
-/
import Derived.Test.YtjpiaccpcmlfnaaDoorFmr
namespace Go.Proofs.YtjpiaccpcmlfnaaDoor
open Go.RowKit Cal
open Classical

theorem below_drewF {B : Nat} {a w : World} (h : Below B a w) (n : Nat) : Below B a (w.drewN n) := ⟨h.os, h.tape, h.output, h.size, h.block⟩
/-- Two cells of a block. -/
def Two2 (w : World) (k : Nat) (a b : Int) : Prop := w.cell? ⟨k, 0, none⟩ = some (.int .i64 a) ∧ w.cell? ⟨k, 1, none⟩ = some (.int .i64 b)
theorem Two2.next {w w' : World} {k : Nat} {a b : Int} (h : Two2 w k a b) (hb : Below w.heap.size w w') : Two2 w' k a b :=
  ⟨(hb.cell (p := ⟨k, 0, none⟩) (World.block_lt_of_cell? w _ h.1)).trans h.1, (hb.cell (p := ⟨k, 1, none⟩) (World.block_lt_of_cell? w _ h.2)).trans h.2⟩

set_option maxRecDepth 100000 in
set_option maxHeartbeats 2000000 in
theorem Format_pair0 (a b : Int) (sa sb sj : ByteArray) (w : World) (hT : Table w) (h1 : 0 ≤ a) (h2 : a ≤ b) (h3 : b ≤ 1048575) (ha : (a == 0) = false) (hb' : (b == 1048575) = false)
    (D0 : Hid (∀ (k : Nat) (w : World), Table w → Two2 w k a b → Calls Tryd.prog 34 #[.int .i64 a, .func (.func 33) #[] #[.pointer (some ⟨k, 0, none⟩)]] w fun e w' => e = .returned (.tuple #[.string sj, .bool false]) ∧ Below w.heap.size w w'))
    (D1 : Hid (∀ w, Table w → Calls Tryd.prog 35 #[.int .i64 a] w fun e w' => e = .returned (.string sa) ∧ Below w.heap.size w w'))
    (D2 : Hid (∀ w, Table w → Calls Tryd.prog 36 #[.int .i64 b] w fun e w' => e = .returned (.string sb) ∧ Below w.heap.size w w')) (za : sa.size ≤ 10) (zb : sb.size ≤ 10) :
    Calls Tryd.prog 24 #[.agg #[.int .i64 a, .int .i64 b]] w fun e w' => e = .returned (.tuple #[.string (sa ++ sl ++ sb), .int .i64 0]) ∧ Below w.heap.size w w' := by
  have HT := Lib.hid hT
  have hlt := hT.lt
  have hs1 : ¬ (9223372036854775807 < sa.size + 1) := by omega
  have hs2 : ¬ (9223372036854775807 < sa.size + 1 + sb.size) := by omega
  have hs3 : sa.size + 1 ≤ 9223372036854775807 := by omega
  have hs4 : sa.size + 1 + sb.size ≤ 9223372036854775807 := by omega
  clear hT
  go_enter Tryd.func24, Tryd.ntmps24
  go_wp2
  go_region_calls
  all_goals
    go_wp2_with fail
    refine (D0.out w.heap.size _ (HT.out.below (by go_grown)) (own3 _ _ _ _ _ _)).mono ?_
    rintro e w1 ⟨rfl, hb1⟩
    have B1 : Hid (Below w.heap.size w w1) := (Below.trans (by go_grown) (hb1.mono (by simp; omega)))
    have X1 : Hid (Two2 w1 w.heap.size a b) := Two2.next (own3 _ _ _ _ _ _) hb1
    have T1 : Hid (Table w1) := HT.out.below B1.out
    have c0 := X1.out.1; have c1 := X1.out.2
    have zw := World.block_lt_of_cell? w1 _ c0
    clear hb1
    go_wp2_with fail
    go_region_held3 (fun v => v.cell? ⟨w.heap.size, 0, none⟩ = some (.int .i64 a) ∧ v.cell? ⟨w.heap.size, 1, none⟩ = some (.int .i64 b)) (first | exact X1.out | assumption)
      ((first
        | (go_at_call 36; refine (D2.out _ T5.out).mono ?_; rintro e w6 ⟨rfl, hb6⟩; have hs6 : w6.cell? ⟨w.heap.size, 0, none⟩ = some (.int .i64 a) ∧ w6.cell? ⟨w.heap.size, 1, none⟩ = some (.int .i64 b) := Two2.next hs5 hb6)
        | (go_at_call 35; refine (D1.out _ (show Table w1.drew from T1.out)).mono ?_; rintro e w5 ⟨rfl, hb5⟩; have T5 : Hid (Table w5) := Table.below (show Table w1.drew from T1.out) hb5; have hs5 : w5.cell? ⟨w.heap.size, 0, none⟩ = some (.int .i64 a) ∧ w5.cell? ⟨w.heap.size, 1, none⟩ = some (.int .i64 b) := Two2.next (show Two2 w1.drew w.heap.size a b from X1.out) hb5)))
    all_goals
      have B6 : Hid (Below w.heap.size w w6) := B1.out.trans (((below_drewF (Below.refl _ w1) 1).trans (hb5.trans (hb6.mono hb5.size))).mono B1.out.size)
      clear hb5 hb6 hs5 hs6
      go_wp2_with fail
      go_ret2
      exact ⟨rfl, B6.out⟩

theorem Format_pair (a b : Int) (w : World) (hT : Table w) (h1 : 0 ≤ a) (h2 : a ≤ b) (h3 : b ≤ 1048575) (ha : (a == 0) = false) (hb' : (b == 1048575) = false) (hj : jusB (dayS a) a b = false) :
    Calls Tryd.prog 24 #[.agg #[.int .i64 a, .int .i64 b]] w fun e w' => e = .returned (.tuple #[.string (begS (dayS a) a ++ sl ++ endS (dayS b) b), .int .i64 0]) ∧ Below w.heap.size w w' :=
  Format_pair0 a b (begS (dayS a) a) (endS (dayS b) b) (jusS (dayS a) a b) w hT h1 h2 h3 ha hb'
    (Lib.hid (fun k w hT hk => by have h := longest_just a a b k w hT h1 (by omega) hk.1 hk.2; rw [hj] at h; exact h))
    (Lib.hid (fun w hT => beg_any a w hT h1 (by omega))) (Lib.hid (fun w hT => end_any b w hT (by omega) h3)) (begS_size _ _) (endS_size _ _)

/-- What Format answers for a valid dating. -/
theorem Format_any (a b : Int) (w : World) (hT : Table w) (h1 : 0 ≤ a) (h2 : a ≤ b) (h3 : b ≤ 1048575) :
    Calls Tryd.prog 24 #[.agg #[.int .i64 a, .int .i64 b]] w fun e w' => e = .returned (.tuple #[.string (fmtS a b), .int .i64 0]) ∧ Below w.heap.size w w' := by
  unfold fmtS
  by_cases u : a = 0 ∧ b = 1048575
  · rw [if_pos u]
    obtain ⟨rfl, rfl⟩ := u
    exact Format_unk w
  rw [if_neg u]
  by_cases a0 : a = 0
  · subst a0
    have hb' : (b == 1048575) = false := by simp; omega
    by_cases hj : jusB (dayS 0) 0 b = true
    · rw [if_pos hj]
      exact Format_just0 b w hT h2 h3 hb' hj
    · rw [if_neg hj, if_pos rfl]
      exact Format_before b w hT h2 h3 hb' (by simpa using hj)
  · have ha : (a == 0) = false := by simp [a0]
    by_cases hj : jusB (dayS a) a b = true
    · rw [if_pos hj]
      exact Format_just a b w hT h1 h2 h3 ha hj
    · rw [if_neg hj, if_neg a0]
      by_cases b9 : b = 1048575
      · subst b9
        rw [if_pos rfl]
        exact Format_after a w hT h1 h2 ha (by simpa using hj)
      · rw [if_neg b9]
        exact Format_pair a b w hT h1 h2 h3 ha (by simp [b9]) (by simpa using hj)

end Go.Proofs.YtjpiaccpcmlfnaaDoor
