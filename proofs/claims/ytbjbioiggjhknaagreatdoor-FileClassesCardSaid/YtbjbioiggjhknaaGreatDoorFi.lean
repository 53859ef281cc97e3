/-
  Files: the comparison of the ends of notes, the small functions. No statement of the seat is proved here.
-/
import Derived.Test.YtbjbioiggjhknaaGreatDoorFo
namespace Go.Proofs.YtbjbioiggjhknaaGreatDoor
open Go Go.RowKit

def cmpI (u v : Int) : Int := if u < v then -1 else if v < u then 1 else 0
theorem Cmp_any (u v : Int) (w : World) : Calls Tryz.prog 86 #[.int .i64 u, .int .i64 v] w fun e w' => e = .returned (.int .i64 (cmpI u v)) ∧ w' = w := by
  refine (Tryz.cmp_Compare_int u v w).mono ?_
  rintro e w' ⟨rfl, rfl⟩
  refine ⟨ret_int ?_, rfl⟩
  unfold cmpI
  first | rfl | (split <;> split <;> omega)

set_option maxHeartbeats 2000000 in
theorem Or_two (b : Nat) (x y : Int) (w : World) (h0 : w.cell? ⟨b, 0, none⟩ = some (.int .i64 x)) (h1 : w.cell? ⟨b, 1, none⟩ = some (.int .i64 y)) :
    Calls Tryz.prog 85 #[.slice (some ⟨b, 0, none⟩) 2 2] w fun e w' => e = .returned (.int .i64 (if x = 0 then y else x)) ∧ Below w.heap.size w w' := by
  have z := World.block_lt_of_cell? w _ h0
  have H0 := Lib.hid h0; have H1 := Lib.hid h1
  obtain ⟨R, hR⟩ : ∃ R, R = if x = 0 then y else x := ⟨_, rfl⟩
  have HR := Lib.hid hR
  rw [← hR]
  clear h0 h1 hR
  go_enter Tryz.func85, Tryz.ntmps85
  go_wp2_with fail
  go_loopw [8] (fun i wr => Below w.heap.size w wr ∧ (i = .int .i64 0 ∨ (i = .int .i64 1 ∧ x = 0) ∨ (i = .int .i64 2 ∧ x = 0 ∧ y = 0))) (fun i _ => 3 - (intOf i).toNat)
  case atStart => exact ⟨by go_grown, .inl rfl⟩
  case round =>
    obtain ⟨hb, g⟩ := hrel
    have NB := Lib.hid hb
    have c0 := (hb.cell (p := ⟨b, 0, none⟩) z).trans H0.out
    have c1 := (hb.cell (p := ⟨b, 1, none⟩) z).trans H1.out
    have zz : b < wr.heap.size := Nat.lt_of_lt_of_le z hb.size
    clear hb
    rcases g with rfl | ⟨rfl, hx⟩ | ⟨rfl, hx, hy⟩
    · by_cases hx : x = 0
      · have e : (x != 0) = false := by simp [hx]
        have HX := Lib.hid hx
        clear hx
        go_wp2
        go_roundw
        case rel => exact ⟨NB.out, .inr (.inl ⟨by go_num, HX.out⟩)⟩
        case measure => simp [intOf]
      · have e : (x != 0) = true := by simp [hx]
        have hR : Hid (R = x) := by show R = x; rw [HR.out, if_neg hx]
        clear hx
        go_wp2
        go_ret
        exact ⟨ret_int hR.out.symm, NB.out⟩
    · have hR : Hid (R = y) := by show R = y; rw [HR.out, if_pos hx]
      have HX := Lib.hid hx
      clear hx
      by_cases hy : y = 0
      · have e : (y != 0) = false := by simp [hy]
        have HY := Lib.hid hy
        clear hy
        go_wp2
        go_roundw
        case rel => exact ⟨NB.out, .inr (.inr ⟨by go_num, HX.out, HY.out⟩)⟩
        case measure => simp [intOf]
      · have e : (y != 0) = true := by simp [hy]
        clear hy
        go_wp2
        go_ret
        exact ⟨ret_int hR.out.symm, NB.out⟩
    · have hR : Hid (R = 0) := by show R = 0; rw [HR.out, if_pos hx, hy]
      clear hx hy
      go_wp2
      go_ret
      exact ⟨ret_int hR.out.symm, NB.out⟩

def Nt.val (x : Nt) : Value := .agg #[.string x.s, .int .i64 x.a, .int .i64 x.b, .int .i64 x.r]
def ends (x y : Nt) : Int := if cmpI x.b y.b = 0 then cmpI x.a y.a else cmpI x.b y.b
theorem ends_pos (x y : Nt) : decide (ends x y > 0) = gt2 x y := by
  unfold ends gt2 cmpI
  rw [decide_eq_decide]
  split <;> split <;> (try split) <;> (try split) <;> (try split) <;> omega

theorem hold4g {w w' : World} {b1 b2 b3 b4 o1 o2 o3 o4 : Nat} {v1 v2 v3 v4 : Value} (h : w.cell? ⟨b1, o1, none⟩ = some v1 ∧ w.cell? ⟨b2, o2, none⟩ = some v2 ∧ w.cell? ⟨b3, o3, none⟩ = some v3 ∧ w.cell? ⟨b4, o4, none⟩ = some v4) (hb : Below w.heap.size w w') :
    w'.cell? ⟨b1, o1, none⟩ = some v1 ∧ w'.cell? ⟨b2, o2, none⟩ = some v2 ∧ w'.cell? ⟨b3, o3, none⟩ = some v3 ∧ w'.cell? ⟨b4, o4, none⟩ = some v4 :=
  ⟨cell_next h.1 hb, cell_next h.2.1 hb, cell_next h.2.2.1 hb, cell_next h.2.2.2 hb⟩
theorem below_or {V w : World} {o : Obj} (h : Below (V.alloc o).drew.heap.size (V.alloc o).drew w) : Below V.heap.size V w :=
  (((Below.refl _ _).alloc (Nat.le_refl _) _).drew).trans (h.mono (by show V.heap.size ≤ (V.alloc o).heap.size; simp))
theorem Or_drew (V : World) (x y : Int) : Calls Tryz.prog 85 #[.slice (some ⟨V.heap.size, 0, none⟩) 2 2] (V.alloc (.cells #[.int .i64 x, .int .i64 y] 3)).drew fun e w' => e = .returned (.int .i64 (if x = 0 then y else x)) ∧ Below V.heap.size V w' := by
  refine (Or_two V.heap.size x y (V.alloc (.cells #[.int .i64 x, .int .i64 y] 3)).drew (World.cell?_alloc_new V _ 3 0) (World.cell?_alloc_new V _ 3 1)).mono ?_
  rintro e w' ⟨h, hb⟩
  exact ⟨h, below_or hb⟩
set_option maxHeartbeats 2000000 in
theorem ends_any (x y : Nt) (w : World) : Calls Tryz.prog 61 #[x.val, y.val] w fun e w' => e = .returned (.int .i64 (ends x y)) ∧ Below w.heap.size w w' := by
  unfold Nt.val
  obtain ⟨V, hV⟩ : ∃ V, V = (w.alloc (.cells #[.string x.s, .int .i64 x.a, .int .i64 x.b, .int .i64 x.r] 74)).alloc (.cells #[.string y.s, .int .i64 y.a, .int .i64 y.b, .int .i64 y.r] 74) := ⟨_, rfl⟩
  have BV : Hid (Below w.heap.size w V) := by rw [hV]; exact ((Below.refl _ _).alloc (Nat.le_refl _) _).alloc (by simp) _
  have XV : Hid (NtAt V w.heap.size 0 x) := by
    rw [hV]
    refine NtAt.next ?_ ((Below.refl _ _).alloc (Nat.le_refl _) _)
    exact ⟨World.cell?_alloc_new w _ 74 0, World.cell?_alloc_new w _ 74 1, World.cell?_alloc_new w _ 74 2, World.cell?_alloc_new w _ 74 3⟩
  have YV : Hid (NtAt V (w.heap.size + 1) 0 y) := by
    rw [hV]
    have := fun i => World.cell?_alloc_new (w.alloc (.cells #[.string x.s, .int .i64 x.a, .int .i64 x.b, .int .i64 x.r] 74)) #[.string y.s, .int .i64 y.a, .int .i64 y.b, .int .i64 y.r] 74 i
    simp only [World.size_alloc] at this
    exact ⟨this 0, this 1, this 2, this 3⟩
  obtain ⟨b, hb⟩ : ∃ b, b = w.heap.size := ⟨_, rfl⟩
  rw [← hb] at XV YV
  have x0 := XV.out.1; have x1 := XV.out.2.1; have x2 := XV.out.2.2.1; have x3 := XV.out.2.2.2
  have y0 := YV.out.1; have y1 := YV.out.2.1; have y2 := YV.out.2.2.1; have y3 := YV.out.2.2.2
  have HB := Lib.hid hb
  obtain ⟨R, hR⟩ : ∃ R, R = ends x y := ⟨_, rfl⟩
  have CO : Hid (Calls Tryz.prog 85 #[.slice (some ⟨V.heap.size, 0, none⟩) 2 2] (V.alloc (.cells #[.int .i64 (cmpI x.b y.b), .int .i64 (cmpI x.a y.a)] 3)).drew fun e w' => e = .returned (.int .i64 R) ∧ Below V.heap.size V w') := by
    rw [hR]
    exact Or_drew V _ _
  rw [← hR]
  clear hR
  go_enter Tryz.func61, Tryz.ntmps61
  go_wp2_with fail
  rw [← hV, ← hb]
  clear hb hV
  go_wp2_with fail
  have HS : Hid (V.cell? ⟨b, 1, none⟩ = some (.int .i64 x.a) ∧ V.cell? ⟨b, 2, none⟩ = some (.int .i64 x.b) ∧ V.cell? ⟨b + 1, 1, none⟩ = some (.int .i64 y.a) ∧ V.cell? ⟨b + 1, 2, none⟩ = some (.int .i64 y.b)) := ⟨x1, x2, y1, y2⟩
  go_region_held3 (fun v => v.cell? ⟨b, 1, none⟩ = some (.int .i64 x.a) ∧ v.cell? ⟨b, 2, none⟩ = some (.int .i64 x.b) ∧ v.cell? ⟨b + 1, 1, none⟩ = some (.int .i64 y.a) ∧ v.cell? ⟨b + 1, 2, none⟩ = some (.int .i64 y.b)) (first | exact HS.out | assumption | exact cell_next (w := V) (by assumption) (((Below.refl _ _).alloc (Nat.le_refl _) _).drew) | (refine ⟨?_, ?_, ?_, ?_⟩ <;> exact cell_next (w := V) (by assumption) (((Below.refl _ _).alloc (Nat.le_refl _) _).drew)))
    ((first
      | (go_at_call 86; refine (Cmp_any _ _ _).mono ?_; rintro e w4 ⟨rfl, rfl⟩)
      | (go_at_call 85; refine CO.out.mono ?_; rintro e w5 ⟨rfl, hb5⟩; have B5 := Lib.hid hb5; have hs5 := hold4g HS.out B5.out)))
  have hB : Below w.heap.size w w5 := BV.out.trans (B5.out.mono BV.out.size)
  have B6 := Lib.hid hB
  clear hB hb5 hs5
  go_wp2_with fail
  go_ret
  exact ⟨rfl, by first | exact B6.out | (rw [HB.out]; exact B6.out)⟩

end Go.Proofs.YtbjbioiggjhknaaGreatDoor
