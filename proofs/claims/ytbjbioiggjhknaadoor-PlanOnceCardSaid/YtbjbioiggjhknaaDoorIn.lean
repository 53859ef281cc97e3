/-
  increase: class codes increase strictly. No statement of the seat is proved here.
-/
import Derived.Test.YtbjbioiggjhknaaDoorCl
import Derived.Deep.RegionHeld3
namespace Go.Proofs.YtbjbioiggjhknaaDoor
open Go Go.RowKit

/-- The code behind an index is greater. -/
def adj (l : List Pr) (i : Nat) : Prop := match l[i]?, l[i + 1]? with
  | some a, some b => cmpC a.c b.c < 0
  | _, _ => True
theorem incr_iff : ∀ l : List Pr, incr (l.map (·.c)) = true ↔ ∀ i, adj l i
  | [] => ⟨fun _ i => by unfold adj; simp, fun _ => rfl⟩
  | [a] => ⟨fun _ i => by unfold adj; cases i <;> simp, fun _ => rfl⟩
  | a :: b :: l => by
    show (decide (cmpC a.c b.c < 0) && incr ((b :: l).map (·.c))) = true ↔ _
    rw [Bool.and_eq_true, decide_eq_true_eq, incr_iff (b :: l)]
    constructor
    · rintro ⟨h1, h2⟩ i
      cases i with
      | zero => exact h1
      | succ i => exact h2 i
    · intro h
      exact ⟨h 0, fun i => h (i + 1)⟩
theorem hold4 {w w' : World} {b o1 o2 o3 o4 : Nat} {v1 v2 v3 v4 : Value} (h : w.cell? ⟨b, o1, none⟩ = some v1 ∧ w.cell? ⟨b, o2, none⟩ = some v2 ∧ w.cell? ⟨b, o3, none⟩ = some v3 ∧ w.cell? ⟨b, o4, none⟩ = some v4) (hb : Below w.heap.size w w') :
    w'.cell? ⟨b, o1, none⟩ = some v1 ∧ w'.cell? ⟨b, o2, none⟩ = some v2 ∧ w'.cell? ⟨b, o3, none⟩ = some v3 ∧ w'.cell? ⟨b, o4, none⟩ = some v4 :=
  ⟨cell_next h.1 hb, cell_next h.2.1 hb, cell_next h.2.2.1 hb, cell_next h.2.2.2 hb⟩
theorem hold4d {w w' : World} {b o1 o2 o3 o4 : Nat} {v1 v2 v3 v4 : Value} (h : w.cell? ⟨b, o1, none⟩ = some v1 ∧ w.cell? ⟨b, o2, none⟩ = some v2 ∧ w.cell? ⟨b, o3, none⟩ = some v3 ∧ w.cell? ⟨b, o4, none⟩ = some v4) (hb : Below w.drew.heap.size w.drew w') :
    w'.cell? ⟨b, o1, none⟩ = some v1 ∧ w'.cell? ⟨b, o2, none⟩ = some v2 ∧ w'.cell? ⟨b, o3, none⟩ = some v3 ∧ w'.cell? ⟨b, o4, none⟩ = some v4 := hold4 (w := w.drew) h hb

set_option maxRecDepth 100000 in
set_option maxHeartbeats 8000000 in
theorem inc91_loop (p : Option Addr) (n cap m : Nat) (l : List Pr) (w : World) (hE : Env w) (hP : PrsAt w p l) (hl : l.length = n) (hn : (n : Int) ≤ 4398046511104) (hz : ∀ x ∈ l, x.c.size ≤ 140737488355328)
    (_hm : m ≤ n) (hv : ∀ i, i < m → adj l i) (R : Bool) (hr : (m = n ∧ R = true) ∨ (m + 1 < n ∧ ¬ adj l m ∧ R = false)) :
    Calls Tryd.prog 35 #[.slice p n cap, .func (.func 36) #[] #[]] w fun e w' => e = .returned (.bool R) ∧ Below w.heap.size w w' := by
  have HP := Lib.hid hP; have HV := Lib.hid hv; have HR := Lib.hid hr; have E0 := Lib.hid hE; have HL := Lib.hid hl; have HZ := Lib.hid hz
  clear hP hv hr hE hl hz
  go_enter Tryd.func35, Tryd.ntmps35
  go_wp2
  go_loopw [5] (fun i wr => ∃ k : Nat, 1 ≤ k ∧ k ≤ m + 1 ∧ i = .int .i64 k ∧ Below w.heap.size w wr) (fun i _ => n + 1 - (intOf i).toNat)
  case atStart => exact ⟨1, Nat.le_refl _, by omega, rfl, by go_grown⟩
  case round =>
    obtain ⟨k, hk1, hk, rfl, hb⟩ := hrel
    have NB := Lib.hid hb
    by_cases hkn : k < n
    · obtain ⟨x, hx⟩ : ∃ x, l[k - 1]? = some x := ⟨_, List.getElem?_eq_getElem (by rw [HL.out]; omega)⟩
      obtain ⟨y, hy⟩ : ∃ y, l[k]? = some y := ⟨_, List.getElem?_eq_getElem (by rw [HL.out]; omega)⟩
      obtain ⟨blk, off, rfl, hpx⟩ := HP.out.get hx
      obtain ⟨blk2, off2, he, hpy⟩ := HP.out.get hy
      obtain ⟨rfl, rfl⟩ : blk = blk2 ∧ off = off2 := by simpa using he
      have PX := Lib.hid (hpx.below hb hpx.lt)
      have PY := Lib.hid (hpy.below hb hpy.lt)
      have C1 := Lib.hid (fun w1 (h1 : Below w.heap.size w w1) => Compare_any x.c y.c w1 (E0.out.below h1) (HZ.out x (List.mem_of_getElem? hx)) (HZ.out y (List.mem_of_getElem? hy)))
      have AD : Hid (adj l (k - 1) ↔ cmpC x.c y.c < 0) := by
        show adj l (k - 1) ↔ cmpC x.c y.c < 0
        unfold adj
        rw [hx, show k - 1 + 1 = k by omega, hy]
      have hkd : decide ((k : Int) < (n : Int)) = true := by simp; omega
      have hj1 : (0 : Int) ≤ (k : Int) - 1 := by omega
      have hj2 : (k : Int) - 1 < (n : Int) := by omega
      have hj3 : ((k : Int) - 1).toNat = k - 1 := by omega
      have hj4 : IntKind.i64.wrap ((k : Int) - 1) = (k : Int) - 1 := IntWalk.i64_in _ (by omega)
      have hk2 : (1 : Int) ≤ (k : Int) := by omega
      have hkz : (k : Int) < (n : Int) := by omega
      have hkn2 : k ≤ n := by omega
      have x0 := PX.out.1; have x1 := PX.out.2
      have y0 := PY.out.1; have y1 := PY.out.2
      have zb := PX.out.lt
      have hs : wr.cell? ⟨blk, off + (k - 1) * 2, none⟩ = some (.string x.c) ∧ wr.cell? ⟨blk, off + (k - 1) * 2 + 1, none⟩ = some (.string x.t) ∧ wr.cell? ⟨blk, off + k * 2, none⟩ = some (.string y.c) ∧ wr.cell? ⟨blk, off + k * 2 + 1, none⟩ = some (.string y.t) := ⟨x0, x1, y0, y1⟩
      have HS := Lib.hid hs
      clear hb hpx hpy hx hy he x0 x1 y0 y1 hs
      go_wp2_with fail
      go_region_held3 (fun v => v.cell? ⟨blk, off + (k - 1) * 2, none⟩ = some (.string x.c) ∧ v.cell? ⟨blk, off + (k - 1) * 2 + 1, none⟩ = some (.string x.t) ∧ v.cell? ⟨blk, off + k * 2, none⟩ = some (.string y.c) ∧ v.cell? ⟨blk, off + k * 2 + 1, none⟩ = some (.string y.t)) (first | exact HS.out | assumption)
        ((first
          | (go_at_call 51; refine (C1.out _ (NB.out.trans (((below_drewN (Below.refl _ wr) 1).trans (hb5.trans (hb6.mono hb5.size))).mono NB.out.size))).mono ?_; rintro e w7 ⟨E, rfl, hb7⟩; have hs7 := hold4 hs6 hb7)
          | (go_at_call 36; refine (cod92_any y _).mono ?_; rintro e w6 ⟨rfl, hb6⟩; have hs6 := hold4 hs5 hb6)
          | (go_at_call 36; refine (cod92_any x _).mono ?_; rintro e w5 ⟨rfl, hb5⟩; have hs5 := hold4d HS.out hb5)))
      have B7 : Hid (Below w.heap.size w w7) := NB.out.trans (((below_drewN (Below.refl _ wr) 1).trans (hb5.trans (hb6.mono hb5.size)) |>.trans (hb7.mono (Nat.le_trans hb5.size hb6.size))).mono NB.out.size)
      clear hb5 hb6 hb7 hs5 hs6 hs7
      obtain ⟨O, hO⟩ : ∃ O, O = cmpC x.c y.c := ⟨_, rfl⟩
      rw [← hO] at AD ⊢
      clear hO C1
      by_cases ho : 0 ≤ O
      · have ho2 : decide (O ≥ 0) = true := by simp; omega
        have hR : Hid (R = false) := by
          show R = false
          rcases HR.out with ⟨h1, h2⟩ | ⟨h1, h2, h3⟩
          · have := AD.out.1 (HV.out (k - 1) (by omega))
            omega
          · exact h3
        clear ho
        go_wp2_with fail
        go_ret
        rw [hR.out]
        exact ⟨rfl, B7.out⟩
      · have ho2 : decide (O ≥ 0) = false := by simp; omega
        have hk5 : k ≤ m := by
          rcases HR.out with ⟨h1, h2⟩ | ⟨h1, h2, h3⟩
          · omega
          · rcases (show k ≤ m ∨ k - 1 = m by omega) with g | g
            · exact g
            · exact absurd (AD.out.2 (by omega)) (by rw [g]; exact h2)
        clear ho
        go_wp2_with fail
        go_roundw
        case rel => exact ⟨k + 1, by omega, by omega, by go_num, B7.out⟩
        case measure => simp [intOf]; omega
    · have hkd : decide ((k : Int) < (n : Int)) = false := by simp; omega
      have hR : Hid (R = true) := by
        show R = true
        rcases HR.out with ⟨h1, h2⟩ | ⟨h1, h2, h3⟩
        · exact h2
        · omega
      clear hb
      go_wp2
      go_ret
      rw [hR.out]
      exact ⟨rfl, NB.out⟩

theorem inc91_any (p : Option Addr) (n cap : Nat) (l : List Pr) (w : World) (hE : Env w) (hP : PrsAt w p l) (hl : l.length = n) (hn : (n : Int) ≤ 4398046511104) (hz : ∀ x ∈ l, x.c.size ≤ 140737488355328) :
    Calls Tryd.prog 35 #[.slice p n cap, .func (.func 36) #[] #[]] w fun e w' => e = .returned (.bool (incr (l.map (·.c)))) ∧ Below w.heap.size w w' := by
  obtain ⟨m, m1, m2, m3⟩ := first_not (adj l) n
  have key : (m + 1 < n ∧ ¬ adj l m) ∨ ∀ i, adj l i := by
    by_cases h : ∀ i, adj l i
    · exact .inr h
    · refine .inl ?_
      have far : ∀ i, n ≤ i + 1 → adj l i := fun i hi => by
        unfold adj
        rw [show l[i + 1]? = none from List.getElem?_eq_none (by omega)]
        cases l[i]? <;> trivial
      rcases m3 with rfl | m3
      · exact absurd (fun i => by
          rcases Nat.lt_or_ge i m with k | k
          · exact m2 i k
          · exact far i (by omega)) h
      · exact ⟨by
          rcases Nat.lt_or_ge (m + 1) n with k | k
          · exact k
          · exact absurd (far m k) m3, m3⟩
  rcases key with ⟨h1, h2⟩ | h
  · have : incr (l.map (·.c)) = false := by
      rw [← Bool.not_eq_true, incr_iff]
      exact fun k => h2 (k m)
    rw [this]
    exact inc91_loop p n cap m l w hE hP hl hn hz m1 m2 false (.inr ⟨h1, h2, rfl⟩)
  · rw [(incr_iff l).2 h]
    exact inc91_loop p n cap n l w hE hP hl hn hz (Nat.le_refl _) (fun i _ => h i) true (.inl ⟨rfl, rfl⟩)

set_option maxRecDepth 100000 in
set_option maxHeartbeats 8000000 in
theorem inc96_loop (p : Option Addr) (n cap m : Nat) (l : List Pr) (w : World) (hE : Env w) (hP : PrsAt w p l) (hl : l.length = n) (hn : (n : Int) ≤ 4398046511104) (hz : ∀ x ∈ l, x.c.size ≤ 140737488355328)
    (_hm : m ≤ n) (hv : ∀ i, i < m → adj l i) (R : Bool) (hr : (m = n ∧ R = true) ∨ (m + 1 < n ∧ ¬ adj l m ∧ R = false)) :
    Calls Tryd.prog 40 #[.slice p n cap, .func (.func 41) #[] #[]] w fun e w' => e = .returned (.bool R) ∧ Below w.heap.size w w' := by
  have HP := Lib.hid hP; have HV := Lib.hid hv; have HR := Lib.hid hr; have E0 := Lib.hid hE; have HL := Lib.hid hl; have HZ := Lib.hid hz
  clear hP hv hr hE hl hz
  go_enter Tryd.func40, Tryd.ntmps40
  go_wp2
  go_loopw [5] (fun i wr => ∃ k : Nat, 1 ≤ k ∧ k ≤ m + 1 ∧ i = .int .i64 k ∧ Below w.heap.size w wr) (fun i _ => n + 1 - (intOf i).toNat)
  case atStart => exact ⟨1, Nat.le_refl _, by omega, rfl, by go_grown⟩
  case round =>
    obtain ⟨k, hk1, hk, rfl, hb⟩ := hrel
    have NB := Lib.hid hb
    by_cases hkn : k < n
    · obtain ⟨x, hx⟩ : ∃ x, l[k - 1]? = some x := ⟨_, List.getElem?_eq_getElem (by rw [HL.out]; omega)⟩
      obtain ⟨y, hy⟩ : ∃ y, l[k]? = some y := ⟨_, List.getElem?_eq_getElem (by rw [HL.out]; omega)⟩
      obtain ⟨blk, off, rfl, hpx⟩ := HP.out.get hx
      obtain ⟨blk2, off2, he, hpy⟩ := HP.out.get hy
      obtain ⟨rfl, rfl⟩ : blk = blk2 ∧ off = off2 := by simpa using he
      have PX := Lib.hid (hpx.below hb hpx.lt)
      have PY := Lib.hid (hpy.below hb hpy.lt)
      have C1 := Lib.hid (fun w1 (h1 : Below w.heap.size w w1) => Compare_any x.c y.c w1 (E0.out.below h1) (HZ.out x (List.mem_of_getElem? hx)) (HZ.out y (List.mem_of_getElem? hy)))
      have AD : Hid (adj l (k - 1) ↔ cmpC x.c y.c < 0) := by
        show adj l (k - 1) ↔ cmpC x.c y.c < 0
        unfold adj
        rw [hx, show k - 1 + 1 = k by omega, hy]
      have hkd : decide ((k : Int) < (n : Int)) = true := by simp; omega
      have hj1 : (0 : Int) ≤ (k : Int) - 1 := by omega
      have hj2 : (k : Int) - 1 < (n : Int) := by omega
      have hj3 : ((k : Int) - 1).toNat = k - 1 := by omega
      have hj4 : IntKind.i64.wrap ((k : Int) - 1) = (k : Int) - 1 := IntWalk.i64_in _ (by omega)
      have hk2 : (1 : Int) ≤ (k : Int) := by omega
      have hkz : (k : Int) < (n : Int) := by omega
      have hkn2 : k ≤ n := by omega
      have x0 := PX.out.1; have x1 := PX.out.2
      have y0 := PY.out.1; have y1 := PY.out.2
      have zb := PX.out.lt
      have hs : wr.cell? ⟨blk, off + (k - 1) * 2, none⟩ = some (.string x.c) ∧ wr.cell? ⟨blk, off + (k - 1) * 2 + 1, none⟩ = some (.string x.t) ∧ wr.cell? ⟨blk, off + k * 2, none⟩ = some (.string y.c) ∧ wr.cell? ⟨blk, off + k * 2 + 1, none⟩ = some (.string y.t) := ⟨x0, x1, y0, y1⟩
      have HS := Lib.hid hs
      clear hb hpx hpy hx hy he x0 x1 y0 y1 hs
      go_wp2_with fail
      go_region_held3 (fun v => v.cell? ⟨blk, off + (k - 1) * 2, none⟩ = some (.string x.c) ∧ v.cell? ⟨blk, off + (k - 1) * 2 + 1, none⟩ = some (.string x.t) ∧ v.cell? ⟨blk, off + k * 2, none⟩ = some (.string y.c) ∧ v.cell? ⟨blk, off + k * 2 + 1, none⟩ = some (.string y.t)) (first | exact HS.out | assumption)
        ((first
          | (go_at_call 51; refine (C1.out _ (NB.out.trans (((below_drewN (Below.refl _ wr) 1).trans (hb5.trans (hb6.mono hb5.size))).mono NB.out.size))).mono ?_; rintro e w7 ⟨E, rfl, hb7⟩; have hs7 := hold4 hs6 hb7)
          | (go_at_call 41; refine (cod97_any y _).mono ?_; rintro e w6 ⟨rfl, hb6⟩; have hs6 := hold4 hs5 hb6)
          | (go_at_call 41; refine (cod97_any x _).mono ?_; rintro e w5 ⟨rfl, hb5⟩; have hs5 := hold4d HS.out hb5)))
      have B7 : Hid (Below w.heap.size w w7) := NB.out.trans (((below_drewN (Below.refl _ wr) 1).trans (hb5.trans (hb6.mono hb5.size)) |>.trans (hb7.mono (Nat.le_trans hb5.size hb6.size))).mono NB.out.size)
      clear hb5 hb6 hb7 hs5 hs6 hs7
      obtain ⟨O, hO⟩ : ∃ O, O = cmpC x.c y.c := ⟨_, rfl⟩
      rw [← hO] at AD ⊢
      clear hO C1
      by_cases ho : 0 ≤ O
      · have ho2 : decide (O ≥ 0) = true := by simp; omega
        have hR : Hid (R = false) := by
          show R = false
          rcases HR.out with ⟨h1, h2⟩ | ⟨h1, h2, h3⟩
          · have := AD.out.1 (HV.out (k - 1) (by omega))
            omega
          · exact h3
        clear ho
        go_wp2_with fail
        go_ret
        rw [hR.out]
        exact ⟨rfl, B7.out⟩
      · have ho2 : decide (O ≥ 0) = false := by simp; omega
        have hk5 : k ≤ m := by
          rcases HR.out with ⟨h1, h2⟩ | ⟨h1, h2, h3⟩
          · omega
          · rcases (show k ≤ m ∨ k - 1 = m by omega) with g | g
            · exact g
            · exact absurd (AD.out.2 (by omega)) (by rw [g]; exact h2)
        clear ho
        go_wp2_with fail
        go_roundw
        case rel => exact ⟨k + 1, by omega, by omega, by go_num, B7.out⟩
        case measure => simp [intOf]; omega
    · have hkd : decide ((k : Int) < (n : Int)) = false := by simp; omega
      have hR : Hid (R = true) := by
        show R = true
        rcases HR.out with ⟨h1, h2⟩ | ⟨h1, h2, h3⟩
        · exact h2
        · omega
      clear hb
      go_wp2
      go_ret
      rw [hR.out]
      exact ⟨rfl, NB.out⟩

theorem inc96_any (p : Option Addr) (n cap : Nat) (l : List Pr) (w : World) (hE : Env w) (hP : PrsAt w p l) (hl : l.length = n) (hn : (n : Int) ≤ 4398046511104) (hz : ∀ x ∈ l, x.c.size ≤ 140737488355328) :
    Calls Tryd.prog 40 #[.slice p n cap, .func (.func 41) #[] #[]] w fun e w' => e = .returned (.bool (incr (l.map (·.c)))) ∧ Below w.heap.size w w' := by
  obtain ⟨m, m1, m2, m3⟩ := first_not (adj l) n
  have key : (m + 1 < n ∧ ¬ adj l m) ∨ ∀ i, adj l i := by
    by_cases h : ∀ i, adj l i
    · exact .inr h
    · refine .inl ?_
      have far : ∀ i, n ≤ i + 1 → adj l i := fun i hi => by
        unfold adj
        rw [show l[i + 1]? = none from List.getElem?_eq_none (by omega)]
        cases l[i]? <;> trivial
      rcases m3 with rfl | m3
      · exact absurd (fun i => by
          rcases Nat.lt_or_ge i m with k | k
          · exact m2 i k
          · exact far i (by omega)) h
      · exact ⟨by
          rcases Nat.lt_or_ge (m + 1) n with k | k
          · exact k
          · exact absurd (far m k) m3, m3⟩
  rcases key with ⟨h1, h2⟩ | h
  · have : incr (l.map (·.c)) = false := by
      rw [← Bool.not_eq_true, incr_iff]
      exact fun k => h2 (k m)
    rw [this]
    exact inc96_loop p n cap m l w hE hP hl hn hz m1 m2 false (.inr ⟨h1, h2, rfl⟩)
  · rw [(incr_iff l).2 h]
    exact inc96_loop p n cap n l w hE hP hl hn hz (Nat.le_refl _) (fun i _ => h i) true (.inl ⟨rfl, rfl⟩)

end Go.Proofs.YtbjbioiggjhknaaDoor
