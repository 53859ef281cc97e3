/-
  What Years answers, in package dating and in its reference. No statement of the seat is proved here.
-/
import Derived.Test.YtjpiaccpcmlfnaaDoorMt
import Derived.Test.YtjpiaccpcmlfnaaDoorMath2
namespace Go.Proofs.YtjpiaccpcmlfnaaDoor
open Go.RowKit Cal
/-- The day so many years later. -/
def yrV (y m d k : Int) : Int := lastV (y + k) m (day28 y m d k)
theorem Table.lt {w : World} (h : Table w) : 0 < w.heap.size := World.block_lt_of_cell? w ⟨0, 0, none⟩ (h 0 (by omega))
theorem Table.below {w w' : World} (h : Table w) (hb : Below w.heap.size w w') : Table w' := fun i hi => (hb.cell (p := ⟨0, i, none⟩) h.lt).trans (h i hi)

set_option maxHeartbeats 2000000 in
theorem Years_bad (a b k : Int) (w : World) (h : ¬ okD a b) :
    Calls Tryd.prog 18 #[.agg #[.int .i64 a, .int .i64 b], .int .i64 k] w fun e w' => e = .returned (.tuple #[.agg #[.int .i64 0, .int .i64 0], .int .i64 1]) ∧ Below w.heap.size w w' := by
  have hc : a < 0 ∨ (0 ≤ a ∧ b < a) ∨ (0 ≤ a ∧ a ≤ b ∧ 1048575 < b) := by omega
  clear h
  rcases hc with h1 | ⟨h1, h2⟩ | ⟨h1, h2, h3⟩
  all_goals
    go_enter Tryd.func18, Tryd.ntmps18
    go_wp2
    refine bodyPost_ret (by simp [results, Tryd.results18, go_sem] <;> rfl) rfl ⟨rfl, by (repeat (first | with_reducible exact Below.refl _ _ | with_reducible assumption | refine Below.alloc ?_ (by first | exact Nat.le_refl _ | (simp; done) | (simp; omega)) _ | refine Below.setCell ?_ (by first | exact Nat.le_refl _ | (simp; done) | (simp; omega)) _))⟩

set_option maxHeartbeats 2000000 in
theorem Years_range (a b k : Int) (w : World) (hT : Table w) (h : okD a b) (hk : k < 0 ∨ 200 < k) :
    Calls Tryd.prog 18 #[.agg #[.int .i64 a, .int .i64 b], .int .i64 k] w fun e w' => e = .returned (.tuple #[.agg #[.int .i64 0, .int .i64 0], .int .i64 2]) ∧ Below w.heap.size w w' := by
  obtain ⟨h1, h2, h3⟩ := h
  have HT := Lib.hid hT
  have HK := Lib.hid hk
  have hlt := hT.lt
  clear hT hk
  go_enter Tryd.func18, Tryd.ntmps18
  go_wp2_with (first | (go_at_call 28; refine (Years_no _ _ _ (HT.out.below (by (repeat (first | with_reducible exact Below.refl _ _ | with_reducible assumption | refine Below.alloc ?_ (by first | exact Nat.le_refl _ | (simp; done) | (simp; omega)) _ | refine Below.setCell ?_ (by first | exact Nat.le_refl _ | (simp; done) | (simp; omega)) _)))) (Or.inr (Or.inr HK.out))).mono ?_; rintro e w' ⟨rfl, rfl⟩) | go_in)
  refine bodyPost_ret (by simp [results, Tryd.results18, go_sem] <;> rfl) rfl ⟨rfl, by (repeat (first | with_reducible exact Below.refl _ _ | with_reducible assumption | refine Below.alloc ?_ (by first | exact Nat.le_refl _ | (simp; done) | (simp; omega)) _ | refine Below.setCell ?_ (by first | exact Nat.le_refl _ | (simp; done) | (simp; omega)) _))⟩

set_option maxHeartbeats 2000000 in
theorem Years_good (a b k y m d y' m' d' : Int) (w : World) (hT : Table w) (h : okD a b) (h0 : 0 ≤ k) (hk : k ≤ 200) (ha : IsDate a y m d) (hb : IsDate b y' m' d') :
    Calls Tryd.prog 18 #[.agg #[.int .i64 a, .int .i64 b], .int .i64 k] w fun e w' => e = .returned (.tuple #[.agg #[.int .i64 (yrV y m d k), .int .i64 (yrV y' m' d' k)], .int .i64 0]) ∧ Below w.heap.size w w' := by
  obtain ⟨h1, h2, h3⟩ := h
  have C1 : ∀ w, Table w → Calls Tryd.prog 28 #[.int .i64 a, .int .i64 k] w fun e w' => e = .returned (.tuple #[.int .i64 (yrV y m d k), .int .i64 0]) ∧ w = w' := fun w hT => Years_is a k y m d w hT h1 (by omega) ha h0 hk
  have C2 : ∀ w, Table w → Calls Tryd.prog 28 #[.int .i64 b, .int .i64 k] w fun e w' => e = .returned (.tuple #[.int .i64 (yrV y' m' d' k), .int .i64 0]) ∧ w = w' := fun w hT => Years_is b k y' m' d' w hT (by omega) (by omega) hb h0 hk
  have HT := Lib.hid hT; have D1 := Lib.hid C1; have D2 := Lib.hid C2
  have hlt := hT.lt
  clear hT C1 C2 ha hb
  go_enter Tryd.func18, Tryd.ntmps18
  go_wp2_with (go_at_call 16; go_in)
  refine (D1.out _ (HT.out.below (by (repeat (first | with_reducible exact Below.refl _ _ | with_reducible assumption | refine Below.alloc ?_ (by first | exact Nat.le_refl _ | (simp; done) | (simp; omega)) _ | refine Below.setCell ?_ (by first | exact Nat.le_refl _ | (simp; done) | (simp; omega)) _))))).mono ?_
  rintro e w' ⟨rfl, rfl⟩
  go_wp2_with fail
  refine (D2.out _ (HT.out.below (by (repeat (first | with_reducible exact Below.refl _ _ | with_reducible assumption | refine Below.alloc ?_ (by first | exact Nat.le_refl _ | (simp; done) | (simp; omega)) _ | refine Below.setCell ?_ (by first | exact Nat.le_refl _ | (simp; done) | (simp; omega)) _))))).mono ?_
  rintro e w' ⟨rfl, rfl⟩
  go_wp2
  refine bodyPost_ret (by simp [results, Tryd.results18, go_sem] <;> rfl) rfl ⟨rfl, by (repeat (first | with_reducible exact Below.refl _ _ | with_reducible assumption | refine Below.alloc ?_ (by first | exact Nat.le_refl _ | (simp; done) | (simp; omega)) _ | refine Below.setCell ?_ (by first | exact Nat.le_refl _ | (simp; done) | (simp; omega)) _))⟩

set_option maxHeartbeats 2000000 in
theorem refYears_bad (a b k : Int) (w : World) (h : ¬ okD a b) :
    Calls Tryd.prog 19 #[.agg #[.int .i64 a, .int .i64 b], .int .i64 k] w fun e w' => e = .returned (.tuple #[.agg #[.int .i64 0, .int .i64 0], .int .i64 1]) ∧ Below w.heap.size w w' := by
  have hc : a < 0 ∨ (0 ≤ a ∧ b < a) ∨ (0 ≤ a ∧ a ≤ b ∧ 1048575 < b) := by omega
  clear h
  rcases hc with h1 | ⟨h1, h2⟩ | ⟨h1, h2, h3⟩
  all_goals
    go_enter Tryd.func19, Tryd.ntmps19
    go_wp2_with (go_at_call 30; go_in)
    all_goals first | (refine bodyPost_ret (by simp [results, Tryd.results19, go_sem] <;> rfl) rfl ⟨rfl, by (repeat (first | with_reducible exact Below.refl _ _ | with_reducible assumption | refine Below.alloc ?_ (by first | exact Nat.le_refl _ | (simp; done) | (simp; omega)) _ | refine Below.setCell ?_ (by first | exact Nat.le_refl _ | (simp; done) | (simp; omega)) _))⟩; done) | (exfalso; (try simp only [Bool.not_eq_false', Bool.not_eq_true', decide_eq_true_eq, decide_eq_false_iff_not, Bool.and_eq_true, Bool.and_eq_false_imp, beq_iff_eq, bne_iff_ne, beq_eq_false_iff_ne, ne_eq, Decidable.not_not] at *); omega)

set_option maxHeartbeats 2000000 in
theorem refYears_range (a b k : Int) (w : World) (h : okD a b) (hk : k < 0 ∨ 200 < k) :
    Calls Tryd.prog 19 #[.agg #[.int .i64 a, .int .i64 b], .int .i64 k] w fun e w' => e = .returned (.tuple #[.agg #[.int .i64 0, .int .i64 0], .int .i64 2]) ∧ Below w.heap.size w w' := by
  obtain ⟨h1, h2, h3⟩ := h
  have HK := Lib.hid hk
  clear hk
  go_enter Tryd.func19, Tryd.ntmps19
  go_wp2_with (first | (go_at_call 31; refine (refYears_no _ _ _ (Or.inr (Or.inr HK.out))).mono ?_; rintro e w' ⟨rfl, rfl⟩) | go_in)
  refine bodyPost_ret (by simp [results, Tryd.results19, go_sem] <;> rfl) rfl ⟨rfl, by (repeat (first | with_reducible exact Below.refl _ _ | with_reducible assumption | refine Below.alloc ?_ (by first | exact Nat.le_refl _ | (simp; done) | (simp; omega)) _ | refine Below.setCell ?_ (by first | exact Nat.le_refl _ | (simp; done) | (simp; omega)) _))⟩

set_option maxHeartbeats 2000000 in
theorem refYears_good (a b k y m d y' m' d' : Int) (w : World) (h : okD a b) (h0 : 0 ≤ k) (hk : k ≤ 200) (ha : IsDate a y m d) (hb : IsDate b y' m' d') :
    Calls Tryd.prog 19 #[.agg #[.int .i64 a, .int .i64 b], .int .i64 k] w fun e w' => e = .returned (.tuple #[.agg #[.int .i64 (yrV y m d k), .int .i64 (yrV y' m' d' k)], .int .i64 0]) ∧ Below w.heap.size w w' := by
  obtain ⟨h1, h2, h3⟩ := h
  have C1 : ∀ w, Calls Tryd.prog 31 #[.int .i64 a, .int .i64 k] w fun e w' => e = .returned (.tuple #[.int .i64 (yrV y m d k), .int .i64 0]) ∧ w = w' := fun w => refYears_is a k y m d w h1 (by omega) ha h0 hk
  have C2 : ∀ w, Calls Tryd.prog 31 #[.int .i64 b, .int .i64 k] w fun e w' => e = .returned (.tuple #[.int .i64 (yrV y' m' d' k), .int .i64 0]) ∧ w = w' := fun w => refYears_is b k y' m' d' w (by omega) (by omega) hb h0 hk
  have D1 := Lib.hid C1; have D2 := Lib.hid C2
  clear C1 C2 ha hb
  go_enter Tryd.func19, Tryd.ntmps19
  go_wp2_with (go_at_call 30; go_in)
  refine (D1.out _).mono ?_
  rintro e w' ⟨rfl, rfl⟩
  go_wp2_with fail
  refine (D2.out _).mono ?_
  rintro e w' ⟨rfl, rfl⟩
  go_wp2
  refine bodyPost_ret (by simp [results, Tryd.results19, go_sem] <;> rfl) rfl ⟨rfl, by (repeat (first | with_reducible exact Below.refl _ _ | with_reducible assumption | refine Below.alloc ?_ (by first | exact Nat.le_refl _ | (simp; done) | (simp; omega)) _ | refine Below.setCell ?_ (by first | exact Nat.le_refl _ | (simp; done) | (simp; omega)) _))⟩
end Go.Proofs.YtjpiaccpcmlfnaaDoor
