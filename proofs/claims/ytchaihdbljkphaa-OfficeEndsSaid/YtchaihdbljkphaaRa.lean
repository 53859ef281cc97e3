/-
  Reach, for any list of offices. No statement of the seat is proved here.
-/
import Derived.Test.YtchaihdbljkphaaVi
import Derived.Laws.EntriesVeiled
namespace Go.Proofs.Ytchaihdbljkphaa
open Go Go.RowKit Go.Maps

set_option maxRecDepth 100000 in
set_option maxHeartbeats 8000000 in
theorem Reach_any (p : Option Addr) (n c : Nat) (l : List Off) (id : Int) (w : World) (hE : Env w) (hL : OffsAt w p l) (hl : l.length = n) (hF : ∀ x ∈ l, FitO x) (hi : I64 id) :
    Calls Try.prog 16 #[.slice p n c, .int .i64 id] w fun e w' => ∃ r, e = .returned r ∧ IRow w' w.heap.size r (reachL (gl l) id) ∧ Below w.heap.size w w' := by
  have VV := Lib.hid (valid_any p n c l w hE hL hl hF)
  have GG := Lib.hid (gl_good l)
  obtain ⟨m, hm⟩ : ∃ m, gl l = m := ⟨_, rfl⟩
  rw [hm] at VV GG ⊢
  have HI := Lib.hid hi
  have hmm := @run_makeMap Try.prog
  clear hE hL hl hF hm hi
  go_enter Try.func16, Try.ntmps16
  go_wp2_with fail
  refine VV.out.mono ?_
  rintro e w1 ⟨v, rfl, hM, hb⟩
  have N1 := Lib.hid hb
  obtain ⟨o, rfl⟩ : ∃ o, v = .map o := by
    rcases hM.vm with ⟨h, _⟩ | ⟨b, h, _⟩
    · exact ⟨_, h⟩
    · exact ⟨_, h⟩
  have MV := Lib.hid hM
  clear hM hb VV
  go_wp2_with fail
  clear hmm
  obtain ⟨N, hN⟩ : ∃ N, N = w1.heap.size := ⟨_, rfl⟩
  rw [← hN]
  obtain ⟨wa, hwa⟩ : ∃ wa, wa = w1.alloc (.cells #[.map o] 51) := ⟨_, rfl⟩
  rw [← hwa]
  obtain ⟨wb, hwb⟩ : ∃ wb, wb = wa.alloc (.map #[] 0) := ⟨_, rfl⟩
  rw [← hwb]
  obtain ⟨wc, hwc⟩ : ∃ wc, wc = wb.alloc (.cells #[.map (some (N + 1))] 55) := ⟨_, rfl⟩
  rw [← hwc]
  obtain ⟨wd, hwd⟩ : ∃ wd, wd = wc.alloc (.cells #[.func (.func 35) #[] #[.pointer (some ⟨N, 0, none⟩), .pointer (some ⟨N + 1 + 1, 0, none⟩), .pointer (some ⟨N + 1 + 1 + 1, 0, none⟩)]] 56) := ⟨_, rfl⟩
  rw [← hwd]
  have sa : wa.heap.size = N + 1 := by rw [hwa, hN]; simp
  have sb : wb.heap.size = N + 2 := by rw [hwb]; simp [sa]
  have sc : wc.heap.size = N + 3 := by rw [hwc]; simp [sb]
  have Ba : Below w1.heap.size w1 wa := by rw [hwa]; exact (Below.refl _ _).alloc (Nat.le_refl _) _
  have Bb : Below wa.heap.size wa wb := by rw [hwb]; exact (Below.refl _ _).alloc (Nat.le_refl _) _
  have Bc : Below wb.heap.size wb wc := by rw [hwc]; exact (Below.refl _ _).alloc (Nat.le_refl _) _
  have Bd : Below wc.heap.size wc wd := by rw [hwd]; exact (Below.refl _ _).alloc (Nat.le_refl _) _
  have Bbd : Below wb.heap.size wb wd := Bc.trans (Bd.mono (by omega))
  have Bad : Below wa.heap.size wa wd := Bb.trans (Bbd.mono (by omega))
  have X : Bx wd N (N + 1 + 1) (N + 1 + 1 + 1) (N + 1) (.map o) := by
    refine ⟨?_, ?_, ?_, by omega, by omega, by omega⟩
    · refine (Bad.cell (p := ⟨N, 0, none⟩) (by show N < _; omega)).trans ?_
      rw [hwa, hN]
      exact World.cell?_alloc_new w1 _ 51 0
    · refine (Bd.cell (p := ⟨N + 1 + 1, 0, none⟩) (by show N + 1 + 1 < _; omega)).trans ?_
      rw [hwc, show N + 1 + 1 = wb.heap.size by omega]
      exact World.cell?_alloc_new wb _ 55 0
    · rw [hwd, show (⟨N + 1 + 1 + 1, 0, none⟩ : Addr) = ⟨wc.heap.size, 0, none⟩ by rw [sc]]
      exact World.cell?_alloc_new wc _ 56 0
  have S0 : SetM wd (N + 1) [] := by
    have := SetM.new wa
    rw [← hwb, sa] at this
    exact this.next Bbd
  have U0 : unr m [] ≤ 32 := Nat.le_trans (List.length_filter_le _ _) GG.out.1
  have V0 := visit_any (.map o) m N (N + 1 + 1) (N + 1 + 1 + 1) (N + 1) wa (MV.out.next Ba) (by omega) 32 [] id wd U0 (by simpa using U0) HI.out Bad X S0
  have XX := Lib.hid X
  have VV := Lib.hid V0
  have BD : Hid (Below w.heap.size w wd) := N1.out.trans ((Ba.trans (Bad.mono (by omega))).mono N1.out.size)
  have NB : Hid (w.heap.size ≤ N) := by show _ ≤ _; rw [hN]; exact N1.out.size
  have UU := Lib.hid U0
  clear X V0 S0 U0 Ba Bb Bc Bd Bbd Bad sa sb sc hwa hwb hwc hwd hN
  refine VV.out.mono ?_
  rintro e w5 ⟨rfl, S, hV, hS, hSl, hG⟩
  have B5 : Hid (Below w.heap.size w w5) := BD.out.grown hG BD.out.size (fun j e => by cases e; have := NB.out; omega)
  have X5 := XX.out.grown hG (.inr rfl)
  have c2 := X5.c2
  have zb := World.block_lt_of_cell? w5 _ c2
  obtain ⟨K1, K2⟩ := keys_row (N + 1) S w5 hS (by have := UU.out; simp at hSl; omega)
  have KK1 := Lib.hid K1; have KK2 := Lib.hid K2
  have VS := Lib.hid hV.reach
  clear hV hS hSl hG X5 K1 K2 VV XX
  go_wp2_with fail
  refine KK1.out.mono ?_
  rintro e w6 ⟨rfl, rfl⟩
  go_wp2_with fail
  refine KK2.out.mono ?_
  rintro e w7 ⟨r, ss, rfl, hp, hm, hr, hb⟩
  have R7 : Hid (IRow w7 w.heap.size r (reachL m id)) := by
    show IRow _ _ _ _
    rw [← reachL_is GG.out id hp (fun z => (hm z).trans (VS.out z))]
    exact own_base hr (by have := B5.out.size; omega)
  have B7 : Hid (Below w.heap.size w w7) := (B5.out.alloc B5.out.size (.cells #[.map (some (N + 1))] 55)).trans (hb.mono (by have := B5.out.size; omega))
  clear hp hm hr hb
  go_wp2_with fail
  go_ret
  exact ⟨_, rfl, R7.out, B7.out⟩

end Go.Proofs.Ytchaihdbljkphaa
