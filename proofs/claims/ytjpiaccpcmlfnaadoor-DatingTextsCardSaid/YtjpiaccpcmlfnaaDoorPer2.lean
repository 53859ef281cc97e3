/-
  What readPeriod answers: a year, a month or a day, read by layer 2. No statement of the seat is proved here.
-/
import Derived.Test.YtjpiaccpcmlfnaaDoorPer
namespace Go.Proofs.YtjpiaccpcmlfnaaDoor
open Go.RowKit Cal
open Classical

/-- What completes the text of a year and of a month. -/
def x4 : ByteArray := { data := #[45, 48, 49, 45, 48, 49] }
def x7 : ByteArray := { data := #[45, 48, 49] }
noncomputable def perE (s : ByteArray) : Int := if s.size = 4 then rdE (s ++ x4) else if s.size = 7 then rdE (s ++ x7) else if s.size = 10 then rdE s else 3
noncomputable def perF (s : ByteArray) : Int := if s.size = 4 then rdF (s ++ x4) else if s.size = 7 then rdF (s ++ x7) else if s.size = 10 then rdF s else 0
noncomputable def perL (s : ByteArray) : Int := if s.size = 4 then rdY (s ++ x4) else if s.size = 7 then rdM (s ++ x7) else if s.size = 10 then rdF s else 0

theorem rdE_23 (t : ByteArray) (h : rdE t ≠ 0) : (rdE t = 2 ∨ rdE t = 3) ∧ rdF t = 0 ∧ rdY t = 0 ∧ rdM t = 0 := by
  refine ⟨?_, if_neg h, if_neg h, if_neg h⟩
  unfold rdE at h ⊢
  split
  · rename_i k
    rw [if_pos k] at h
    rcases ofE_02 (p1 t) (p2 t) (p3 t) with z | z
    · exact absurd z h
    · exact Or.inl z
  · exact Or.inr rfl

theorem days_Y (t : ByteArray) (w : World) (hT : Table w) :
    Calls Tryd.prog 73 #[.string t, .func (.func 74) #[] #[]] w fun e w' => e = .returned (.tuple #[.agg #[.int .i64 (rdF t), .int .i64 (rdY t)], .int .i64 (rdE t)]) ∧ Below w.heap.size w w' := by
  by_cases h : rdE t = 0
  · rw [h]; exact readDays_Y t w hT h
  · obtain ⟨h1, h2, h3, h4⟩ := rdE_23 t h
    have k : ∀ w, Table w → Calls Tryd.prog 82 #[.string t] w fun e w' => e = .returned (.tuple #[.int .i64 0, .int .i64 (rdE t)]) ∧ w = w' := fun w hT => by
      have := parse_rd t w hT
      rw [h2] at this
      exact this
    rw [h2, h3]
    exact readDays_no t _ _ w hT h1 k

theorem days_M (t : ByteArray) (w : World) (hT : Table w) :
    Calls Tryd.prog 73 #[.string t, .func (.func 75) #[] #[]] w fun e w' => e = .returned (.tuple #[.agg #[.int .i64 (rdF t), .int .i64 (rdM t)], .int .i64 (rdE t)]) ∧ Below w.heap.size w w' := by
  by_cases h : rdE t = 0
  · rw [h]; exact readDays_M t w hT h
  · obtain ⟨h1, h2, h3, h4⟩ := rdE_23 t h
    have k : ∀ w, Table w → Calls Tryd.prog 82 #[.string t] w fun e w' => e = .returned (.tuple #[.int .i64 0, .int .i64 (rdE t)]) ∧ w = w' := fun w hT => by
      have := parse_rd t w hT
      rw [h2] at this
      exact this
    rw [h2, h4]
    exact readDays_no t _ _ w hT h1 k

theorem days_D (t : ByteArray) (w : World) (hT : Table w) :
    Calls Tryd.prog 73 #[.string t, .func (.func 76) #[] #[]] w fun e w' => e = .returned (.tuple #[.agg #[.int .i64 (rdF t), .int .i64 (rdF t)], .int .i64 (rdE t)]) ∧ Below w.heap.size w w' := by
  by_cases h : rdE t = 0
  · rw [h]; exact readDays_D t w hT h
  · obtain ⟨h1, h2, h3, h4⟩ := rdE_23 t h
    have k : ∀ w, Table w → Calls Tryd.prog 82 #[.string t] w fun e w' => e = .returned (.tuple #[.int .i64 0, .int .i64 (rdE t)]) ∧ w = w' := fun w hT => by
      have := parse_rd t w hT
      rw [h2] at this
      exact this
    rw [h2]
    exact readDays_no t _ _ w hT h1 k


/-- A result's two cells, behind a call. -/
theorem keep2 {w w' : World} {u v : Value} {t : TypeId} (hb : Below (w.alloc (.cells #[u, v] t)).heap.size (w.alloc (.cells #[u, v] t)) w') :
    w'.cell? ⟨w.heap.size, 0, none⟩ = some u ∧ w'.cell? ⟨w.heap.size, 1, none⟩ = some v ∧ w'.frozen? ⟨w.heap.size, 0, none⟩ = false ∧ w'.frozen? ⟨w.heap.size, 1, none⟩ = false ∧ w.heap.size < w'.heap.size := by
  have hz := hb.size
  simp at hz
  refine ⟨?_, ?_, ?_, ?_, by omega⟩
  · rw [hb.cell (by simp), World.cell?_alloc_mark]; rfl
  · rw [hb.cell (by simp), World.cell?_alloc_mark]; rfl
  · rw [hb.frozen (by simp), World.frozen?_alloc_new]
  · rw [hb.frozen (by simp), World.frozen?_alloc_new]
theorem set20 {w' : World} {b : Nat} {u x y : Value} (c0 : w'.cell? ⟨b, 0, none⟩ = some u) :
    ((w'.setCell ⟨b, 0, none⟩ x).setCell ⟨b, 1, none⟩ y).cell? ⟨b, 0, none⟩ = some x := by
  rw [World.cell?_setCell_other (h := by simp), World.cell?_setCell_same (h := c0)]
theorem set21 {w' : World} {b : Nat} {v x y : Value} (c1 : w'.cell? ⟨b, 1, none⟩ = some v) :
    ((w'.setCell ⟨b, 0, none⟩ x).setCell ⟨b, 1, none⟩ y).cell? ⟨b, 1, none⟩ = some y := by
  exact World.cell?_setCell_same _ _ _ (u := v) ((World.cell?_setCell_other w' ⟨b, 0, none⟩ ⟨b, 1, none⟩ x (by simp)).trans c1)

theorem bool_ne {a b : Int} (h : a ≠ b) : (a == b) = false := by simp [h]
theorem bool_eq {a b : Int} (h : a = b) : (a == b) = true := by simp [h]

set_option maxHeartbeats 1000000 in
theorem readPeriod_any (s : ByteArray) (w : World) (hT : Table w) :
    Calls Tryd.prog 61 #[.string s] w fun e w' => e = .returned (.tuple #[.agg #[.int .i64 (perF s), .int .i64 (perL s)], .int .i64 (perE s)]) ∧ Below w.heap.size w w' := by
  have HT := Lib.hid (hT.below ((Below.refl w.heap.size w).alloc (Nat.le_refl _) (.cells #[.int .i64 0, .int .i64 0] 23)))
  have hlt := hT.lt
  have NA : Hid (Below w.heap.size w (w.alloc (.cells #[.int .i64 0, .int .i64 0] 23))) := (Below.refl w.heap.size w).alloc (Nat.le_refl _) _
  clear hT
  by_cases h4 : s.size = 4
  · have e1 : perE s = rdE (s ++ x4) := if_pos h4
    have e2 : perF s = rdF (s ++ x4) := if_pos h4
    have e3 : perL s = rdY (s ++ x4) := if_pos h4
    rw [e1, e2, e3]
    have C := Lib.hid (days_Y (s ++ x4) _ HT.out)
    have b4 : ((s.size : Int) == 4) = true := bool_eq (by omega)
    clear e1 e2 e3
    go_enter Tryd.func61, Tryd.ntmps61
    go_wp2_with fail
    refine C.out.mono ?_
    rintro e w' ⟨rfl, hb⟩
    have N := Lib.hid hb
    obtain ⟨c0, c1, f0, f1, z⟩ := keep2 hb
    clear hb
    go_wp2
    refine bodyPost_ret (by simp [results, Tryd.results61, go_sem, set20 c0, set21 c1] <;> rfl) rfl ⟨rfl, ?_⟩
    exact ((NA.out.trans (N.out.mono (by simp))).setCell (p := ⟨w.heap.size, 0, none⟩) (Nat.le_refl _) _).setCell (p := ⟨w.heap.size, 1, none⟩) (Nat.le_refl _) _
  by_cases h7 : s.size = 7
  · have e1 : perE s = rdE (s ++ x7) := (if_neg h4).trans (if_pos h7)
    have e2 : perF s = rdF (s ++ x7) := (if_neg h4).trans (if_pos h7)
    have e3 : perL s = rdM (s ++ x7) := (if_neg h4).trans (if_pos h7)
    rw [e1, e2, e3]
    have C := Lib.hid (days_M (s ++ x7) _ HT.out)
    have b4 : ((s.size : Int) == 4) = false := bool_ne (by omega)
    have b7 : ((s.size : Int) == 7) = true := bool_eq (by omega)
    clear e1 e2 e3 h4
    go_enter Tryd.func61, Tryd.ntmps61
    go_wp2_with fail
    refine C.out.mono ?_
    rintro e w' ⟨rfl, hb⟩
    have N := Lib.hid hb
    obtain ⟨c0, c1, f0, f1, z⟩ := keep2 hb
    clear hb
    go_wp2
    refine bodyPost_ret (by simp [results, Tryd.results61, go_sem, set20 c0, set21 c1] <;> rfl) rfl ⟨rfl, ?_⟩
    exact ((NA.out.trans (N.out.mono (by simp))).setCell (p := ⟨w.heap.size, 0, none⟩) (Nat.le_refl _) _).setCell (p := ⟨w.heap.size, 1, none⟩) (Nat.le_refl _) _
  by_cases h10 : s.size = 10
  · have e1 : perE s = rdE s := (if_neg h4).trans ((if_neg h7).trans (if_pos h10))
    have e2 : perF s = rdF s := (if_neg h4).trans ((if_neg h7).trans (if_pos h10))
    have e3 : perL s = rdF s := (if_neg h4).trans ((if_neg h7).trans (if_pos h10))
    rw [e1, e2, e3]
    have C := Lib.hid (days_D s _ HT.out)
    have b4 : ((s.size : Int) == 4) = false := bool_ne (by omega)
    have b7 : ((s.size : Int) == 7) = false := bool_ne (by omega)
    have b10 : ((s.size : Int) == 10) = true := bool_eq (by omega)
    clear e1 e2 e3 h4 h7
    go_enter Tryd.func61, Tryd.ntmps61
    go_wp2_with fail
    refine C.out.mono ?_
    rintro e w' ⟨rfl, hb⟩
    have N := Lib.hid hb
    obtain ⟨c0, c1, f0, f1, z⟩ := keep2 hb
    clear hb
    go_wp2
    refine bodyPost_ret (by simp [results, Tryd.results61, go_sem, set20 c0, set21 c1] <;> rfl) rfl ⟨rfl, ?_⟩
    exact ((NA.out.trans (N.out.mono (by simp))).setCell (p := ⟨w.heap.size, 0, none⟩) (Nat.le_refl _) _).setCell (p := ⟨w.heap.size, 1, none⟩) (Nat.le_refl _) _
  have e1 : perE s = 3 := (if_neg h4).trans ((if_neg h7).trans (if_neg h10))
  have e2 : perF s = 0 := (if_neg h4).trans ((if_neg h7).trans (if_neg h10))
  have e3 : perL s = 0 := (if_neg h4).trans ((if_neg h7).trans (if_neg h10))
  rw [e1, e2, e3]
  have b4 : ((s.size : Int) == 4) = false := bool_ne (by omega)
  have b7 : ((s.size : Int) == 7) = false := bool_ne (by omega)
  have b10 : ((s.size : Int) == 10) = false := bool_ne (by omega)
  clear e1 e2 e3 h4 h7 h10
  go_enter Tryd.func61, Tryd.ntmps61
  go_wp2
  refine bodyPost_ret (by simp [results, Tryd.results61, go_sem] <;> rfl) rfl ⟨rfl, by (repeat (first | with_reducible exact Below.refl _ _ | with_reducible assumption | refine Below.alloc ?_ (by first | exact Nat.le_refl _ | (simp; done) | (simp; omega)) _ | refine Below.setCell ?_ (by first | exact Nat.le_refl _ | (simp; done) | (simp; omega)) _))⟩
end Go.Proofs.YtjpiaccpcmlfnaaDoor
