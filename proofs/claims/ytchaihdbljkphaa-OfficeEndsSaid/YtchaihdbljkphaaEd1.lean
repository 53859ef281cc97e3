/-
  The copy of a list of offices, and End, for any list of offices. No statement of the seat is proved here.
-/
import Derived.Test.YtchaihdbljkphaaEd0
namespace Go.Proofs.Ytchaihdbljkphaa
open Go Go.RowKit Go.Maps Go.Joins

theorem Cpy.at_ {w : World} {g : Nat} {l m : List Off} (h : Cpy w g l m) {k : Nat} {a : Off} (ha : l[k]? = some a) : ∃ x, m[k]? = some x ∧ EqO a x := by
  obtain ⟨x, hx⟩ : ∃ x, m[k]? = some x := ⟨_, List.getElem?_eq_getElem (by rw [h.len]; exact (List.getElem?_eq_some_iff.1 ha).1)⟩
  exact ⟨x, hx, h.eqs k a x ha hx⟩

set_option maxRecDepth 100000 in
set_option maxHeartbeats 4000000 in
theorem endCl_any (g k : Nat) (l m : List Off) (a : Off) (w : World) (hC : Cpy w g l m) (ha : l[k]? = some a) (hF : FitO a) :
    Calls Try.prog 42 #[.pointer (some ⟨g, k * 5, none⟩)] w fun e w' => e = .returned (.tuple #[]) ∧ (∃ m', Cpy w' g l m') ∧ ∀ A u, A ≤ g → Below A u w → Below A u w' := by
  obtain ⟨x, hx, he⟩ := hC.at_ ha
  have q4 := (hC.own.off hx).2.2.2.2
  have zb := hC.own.1
  have f4 := (hC.own.2 k x hx 4 _ rfl).2
  have CL := Lib.hid (clone_ints x.np x.nx x.nc w (hC.nxs x (List.mem_of_getElem? hx)).1 (by rw [← he.2.2.2.2]; have := hF.2.2.2.2.1; omega))
  have CC := Lib.hid hC; have HX := Lib.hid hx; have HE := Lib.hid he
  obtain ⟨n, hn⟩ : ∃ n, x.nx.length = n := ⟨_, rfl⟩
  rw [hn] at q4 CL
  have HN := Lib.hid hn
  clear hC ha hF hx he hn f4
  go_enter Try.func42, Try.ntmps42
  go_wp2_with fail
  refine CL.out.mono ?_
  rintro e w1 ⟨q, dd, rfl, hI, hq, hb⟩
  have C1 := Lib.hid (CC.out.next hb)
  have IQ : Hid (IntsO w1 g q x.nx) := ⟨hI, hq.imp id fun h a ha => by have := h a ha; have := CC.out.own.1; omega⟩
  have BB := Lib.hid hb
  clear hI hq hb q4 zb CL
  have q4 := (C1.out.own.off HX.out).2.2.2.2
  have zb := C1.out.own.1
  have f4 := (C1.out.own.2 k x HX.out 4 _ rfl).2
  go_wp2_with fail
  go_end0
  refine ⟨rfl, ⟨_, C1.out.put HX.out (i := 4) (x' := { x with np := q, nc := dd }) (by omega) (by show _ = _; rw [← HN.out]; rfl) IQ.out rfl (fun _ _ _ h => h) (fun a ha => ?_)⟩, fun A u hA hB => ?_⟩
  · exact C1.out.eqs k a x ha HX.out
  · exact (hB.trans (BB.out.mono (Nat.le_of_lt (Nat.lt_of_le_of_lt hA CC.out.own.1)))).setCell hA _

set_option maxRecDepth 100000 in
set_option maxHeartbeats 4000000 in
theorem list_any (b o n c : Nat) (l : List Off) (w : World) (hL : OffsAt w (some ⟨b, o, none⟩) l) (hl : l.length = n) (h0 : 0 < n) (hn : n ≤ 1000) (hF : ∀ x ∈ l, FitO x) :
    Calls Try.prog 41 #[.slice (some ⟨b, o, none⟩) n c, .func (.func 42) #[] #[]] w fun e w' => ∃ g cap m, e = .returned (.slice (some ⟨g, 0, none⟩) n cap) ∧ Cpy w' g l m ∧ w.heap.size ≤ g ∧ Below w.heap.size w w' := by
  have CO := Lib.hid (cloneO_any b o n c l w hL hl h0 hn)
  have HL := Lib.hid hl
  have FF := Lib.hid hF
  have LV := Lib.hid (fun (v : World) (h : Below w.heap.size w v) => hL.next h)
  have LT : Hid (∀ x ∈ l, x.nx = [] ∨ ∀ a, x.np = some a → a.block < w.heap.size) := fun x hx => by
    rcases hL.ints hx with h | ⟨b', o', e, h⟩
    · exact .inl h
    · by_cases hz : x.nx = []
      · exact .inl hz
      · refine .inr fun a ha => ?_
        rw [e] at ha
        injection ha with ha
        rw [← ha]
        obtain ⟨z, hz⟩ : ∃ z, x.nx[0]? = some z := ⟨_, List.getElem?_eq_getElem (List.length_pos_iff.2 hz)⟩
        exact World.block_lt_of_cell? w _ (h 0 z hz)
  clear hL hl hF
  go_enter Try.func41, Try.ntmps41
  go_wp2_with fail
  refine CO.out.mono ?_
  rintro e w1 ⟨g, cap, rfl, hO, hg, hb⟩
  have C1 : Hid (Cpy w1 g l l) := ⟨rfl, hO, fun x hx => ⟨(LV.out w1 hb).ints hx, (LT.out x hx).imp id fun h a ha => by have := h a ha; omega⟩, fun j a b ha hb => by
    obtain rfl := Option.some.inj (ha.symm.trans hb)
    exact EqO.refl _⟩
  have HG := Lib.hid hg
  have N1 := Lib.hid hb
  clear hO hg hb CO
  go_wp2_with fail
  go_loopw [11] (fun i wr => ∃ (k : Nat) (m : List Off), k ≤ n ∧ i = .int .i64 k ∧ Cpy wr g l m ∧ Below w.heap.size w wr) (fun i _ => n - iv i)
  case atStart => exact ⟨0, l, Nat.zero_le _, rfl, C1.out, N1.out⟩
  case round =>
    obtain ⟨k, m, hk, rfl, hC, hB⟩ := hrel
    have CC := Lib.hid hC; have NB := Lib.hid hB
    clear hC hB C1 N1
    by_cases hkn : k < n
    · obtain ⟨a, ha⟩ : ∃ a, l[k]? = some a := ⟨_, List.getElem?_eq_getElem (by rw [HL.out]; exact hkn)⟩
      have hkd : decide ((k : Int) < (n : Int)) = true := by simp; omega
      have EC := Lib.hid (endCl_any g k l m a wr CC.out ha (FF.out a (List.mem_of_getElem? ha)))
      clear ha
      go_wp2_with fail
      refine EC.out.mono ?_
      rintro e w3 ⟨rfl, ⟨m', hC'⟩, hb⟩
      have C3 := Lib.hid hC'
      have N3 : Hid (Below w.heap.size w w3) := hb _ _ HG.out NB.out
      clear hC' hb EC
      go_wp2_with fail
      go_roundw
      case rel => exact ⟨k + 1, m', by omega, by go_num, C3.out, N3.out⟩
      case measure => simp only [iv]; omega
    · obtain rfl : k = n := by omega
      have hkd : decide ((k : Int) < (k : Int)) = false := by simp
      go_wp2_with fail
      go_ret
      exact ⟨g, cap, m, rfl, CC.out, HG.out, NB.out⟩

end Go.Proofs.Ytchaihdbljkphaa
