/-
  Few at one file; the reference's on, State, Known. No statement of the seat is proved here.
-/
import Derived.Test.YtbjbioiggjhknaaGreatDoorKit
namespace Go.Proofs.YtbjbioiggjhknaaGreatDoor
open Go Go.RowKit

/-- A file that is small enough for the statements. -/
def FewF (x : Fil) : Prop := x.ns.length ≤ 20 ∧ x.t.size ≤ 100 ∧ x.c.size ≤ 100 ∧ ∀ y ∈ x.ns, y.s.size ≤ 100
def fewF (x : Fil) : Bool := decide (x.ns.length ≤ 20) && decide (x.t.size ≤ 100) && decide (x.c.size ≤ 100) && x.ns.all fun y => decide (y.s.size ≤ 100)
theorem fewF_iff {x : Fil} : fewF x = true ↔ FewF x := by
  unfold fewF FewF
  simp [and_assoc]

set_option maxRecDepth 100000 in
set_option maxHeartbeats 8000000 in
theorem Few_names (x : Fil) (g m : Nat) (w : World) (hX : FilAt w g 0 x) (hN : NtsAt w x.np x.ns) (h1 : x.ns.length ≤ 20) (h2 : x.t.size ≤ 100) (h3 : x.c.size ≤ 100) (hm : m ≤ x.ns.length) (hv : ∀ (i : Nat) y, i < m → x.ns[i]? = some y → y.s.size ≤ 100)
    (R : Bool) (hr : (m = x.ns.length ∧ R = true) ∨ (∃ y, x.ns[m]? = some y ∧ 100 < y.s.size ∧ R = false)) :
    Calls Tryz.prog 18 #[.slice (some ⟨g, 0, none⟩) 1 1] w fun e w' => e = .returned (.bool R) ∧ Below w.heap.size w w' := by
  have X0 := Lib.hid hX; have N0 := Lib.hid hN; have HV := Lib.hid hv; have HR := Lib.hid hr
  obtain ⟨n, hl⟩ : ∃ n, x.ns.length = n := ⟨_, rfl⟩
  have HL := Lib.hid hl
  rw [hl] at h1 hm
  have e1 : decide ((n : Int) > 20) = false := by simp; omega
  have e2 : decide ((x.t.size : Int) > 100) = false := by simp; omega
  have e3 : decide ((x.c.size : Int) > 100) = false := by simp; omega
  obtain ⟨ct, hct⟩ : ∃ a, a = x.t.size := ⟨_, rfl⟩
  have zg : g < w.heap.size := World.block_lt_of_cell? w _ hX.c0
  clear hX hN hv hr hl h2 h3 hct
  go_enter Tryz.func18, Tryz.ntmps18
  go_wp2_with fail
  go_loopw [3] (fun i wr => Below w.heap.size w wr ∧ (i = .int .i64 0 ∨ (i = .int .i64 1 ∧ R = true))) (fun i _ => 2 - (intOf i).toNat)
  case atStart => exact ⟨by go_grown, .inl rfl⟩
  case round =>
    obtain ⟨hb, hi⟩ := hrel
    have NB := Lib.hid hb
    have X1 := X0.out.next hb
    have c4 := X1.c4; have c5 := X1.c5; have c7 := X1.c7
    rw [HL.out] at c7
    have zg1 : g < wr.heap.size := Nat.lt_of_lt_of_le zg hb.size
    clear hb X1
    rcases hi with rfl | ⟨rfl, hR⟩
    · go_wp2_with fail
      go_loopw [4] (fun i wq => ∃ k : Nat, k ≤ m ∧ i = .int .i64 k ∧ Below w.heap.size w wq) (fun i _ => n - (intOf i).toNat)
      case atStart => exact ⟨0, Nat.zero_le _, rfl, NB.out⟩
      case round =>
        obtain ⟨k, hk, rfl, hb⟩ := hrel
        have NB2 := Lib.hid hb
        have X1 := X0.out.next hb
        have c4 := X1.c4; have c5 := X1.c5; have c7 := X1.c7
        rw [HL.out] at c7
        have zg2 : g < wr.heap.size := Nat.lt_of_lt_of_le zg hb.size
        clear hb X1
        by_cases hkn : k < n
        · obtain ⟨y, hy⟩ : ∃ y, x.ns[k]? = some y := ⟨_, List.getElem?_eq_getElem (by rw [HL.out]; exact hkn)⟩
          obtain ⟨blk, off, hnp, hpc⟩ := N0.out.get hy
          have PY := Lib.hid (hpc.next NB2.out)
          have y0 := PY.out.1
          have zb := PY.out.lt
          have hkd : decide ((k : Int) < (n : Int)) = true := by simp; omega
          have HY := Lib.hid hy
          rw [hnp] at c7
          clear hpc hy
          by_cases hs : y.s.size ≤ 100
          · have e4 : decide ((y.s.size : Int) > 100) = false := by simp; omega
            have hkm : k < m := by
              rcases HR.out with ⟨h, _⟩ | ⟨z, h, h2, _⟩
              · have := HL.out; omega
              · rcases (show k < m ∨ k = m by omega) with g | g
                · exact g
                · subst g
                  obtain rfl : z = y := Option.some.inj (h.symm.trans HY.out)
                  omega
            clear hs
            go_wp2_with fail
            go_roundw
            case rel => exact ⟨k + 1, by omega, by go_num, NB2.out⟩
            case measure => simp [intOf]; omega
          · have e4 : decide ((y.s.size : Int) > 100) = true := by simp; omega
            have hR : Hid (R = false) := by
              show R = false
              rcases HR.out with ⟨h, _⟩ | ⟨z, h, h2, h3⟩
              · exact absurd (HV.out k y (by have := HL.out; omega) HY.out) hs
              · exact h3
            clear hs
            go_wp2_with fail
            go_ret
            rw [hR.out]
            exact ⟨rfl, NB2.out⟩
        · have hkd : decide ((k : Int) < (n : Int)) = false := by simp; omega
          have hR : Hid (R = true) := by
            show R = true
            rcases HR.out with ⟨_, h⟩ | ⟨z, h, h2, h3⟩
            · exact h
            · have := (List.getElem?_eq_some_iff.1 h).1
              have := HL.out
              omega
          go_wp2_with fail
          go_roundw
          case rel => exact ⟨NB2.out, .inr ⟨by go_num, hR.out⟩⟩
          case measure => simp [intOf]
    · have hR2 := Lib.hid hR
      clear hR
      go_wp2_with fail
      go_ret
      rw [hR2.out]
      exact ⟨rfl, NB.out⟩

set_option maxRecDepth 100000 in
set_option maxHeartbeats 8000000 in
theorem Few_big (x : Fil) (g : Nat) (w : World) (hX : FilAt w g 0 x) (h : 20 < x.ns.length ∨ 100 < x.t.size ∨ 100 < x.c.size) :
    Calls Tryz.prog 18 #[.slice (some ⟨g, 0, none⟩) 1 1] w fun e w' => e = .returned (.bool false) ∧ Below w.heap.size w w' := by
  have X0 := Lib.hid hX
  obtain ⟨n, hl⟩ : ∃ n, x.ns.length = n := ⟨_, rfl⟩
  have HL := Lib.hid hl
  rw [hl] at h
  have H := Lib.hid h
  have zg : g < w.heap.size := World.block_lt_of_cell? w _ hX.c0
  clear hX hl h
  go_enter Tryz.func18, Tryz.ntmps18
  go_wp2_with fail
  go_loopw [3] (fun i wr => Below w.heap.size w wr ∧ i = .int .i64 0) (fun i _ => 2 - (intOf i).toNat)
  case atStart => exact ⟨by go_grown, rfl⟩
  case round =>
    obtain ⟨hb, rfl⟩ := hrel
    have NB := Lib.hid hb
    have X1 := X0.out.next hb
    have c4 := X1.c4; have c5 := X1.c5; have c7 := X1.c7
    rw [HL.out] at c7
    have zg1 : g < wr.heap.size := Nat.lt_of_lt_of_le zg hb.size
    clear hb X1
    by_cases h1 : 20 < n
    · have e1 : decide ((n : Int) > 20) = true := by simp; omega
      clear h1
      go_wp2_with fail
      go_ret
      exact ⟨rfl, NB.out⟩
    · have e1 : decide ((n : Int) > 20) = false := by simp; omega
      by_cases h2 : 100 < x.t.size
      · have e2 : decide ((x.t.size : Int) > 100) = true := by simp; omega
        clear h1 h2
        go_wp2_with fail
        go_ret
        exact ⟨rfl, NB.out⟩
      · have e2 : decide ((x.t.size : Int) > 100) = false := by simp; omega
        have e3 : decide ((x.c.size : Int) > 100) = true := by have := H.out; simp; omega
        clear h1 h2
        go_wp2_with fail
        go_ret
        exact ⟨rfl, NB.out⟩

theorem Few_any (x : Fil) (g : Nat) (w : World) (hX : FilAt w g 0 x) (hN : NtsAt w x.np x.ns) :
    Calls Tryz.prog 18 #[.slice (some ⟨g, 0, none⟩) 1 1] w fun e w' => e = .returned (.bool (fewF x)) ∧ Below w.heap.size w w' := by
  by_cases h : 20 < x.ns.length ∨ 100 < x.t.size ∨ 100 < x.c.size
  · have : fewF x = false := by
      rw [← Bool.not_eq_true, fewF_iff]
      rintro ⟨h1, h2, h3, _⟩
      omega
    rw [this]
    exact Few_big x g w hX h
  · have h1 : x.ns.length ≤ 20 := by omega
    have h2 : x.t.size ≤ 100 := by omega
    have h3 : x.c.size ≤ 100 := by omega
    obtain ⟨m, m1, m2, m3⟩ := first_not (fun i => ∀ y, x.ns[i]? = some y → y.s.size ≤ 100) x.ns.length
    rcases m3 with e | e
    · have : fewF x = true := fewF_iff.2 ⟨h1, h2, h3, fun y hy => by
        obtain ⟨i, hi⟩ := List.getElem?_of_mem hy
        exact m2 i (by rw [e]; exact (List.getElem?_eq_some_iff.1 hi).1) y hi⟩
      rw [this]
      exact Few_names x g m w hX hN h1 h2 h3 m1 (fun i y hi hy => m2 i hi y hy) true (.inl ⟨e, rfl⟩)
    · obtain ⟨y, hy⟩ := Classical.not_forall.1 e
      have hy1 : x.ns[m]? = some y := Classical.byContradiction fun k => hy (fun h => absurd h k)
      have hy2 : ¬ y.s.size ≤ 100 := fun k => hy (fun _ => k)
      have : fewF x = false := by
        rw [← Bool.not_eq_true, fewF_iff]
        rintro ⟨_, _, _, h4⟩
        exact hy2 (h4 y (List.mem_of_getElem? hy1))
      rw [this]
      exact Few_names x g m w hX hN h1 h2 h3 m1 (fun i y hi hy => m2 i hi y hy) false (.inr ⟨y, hy1, by omega, rfl⟩)

end Go.Proofs.YtbjbioiggjhknaaGreatDoor
