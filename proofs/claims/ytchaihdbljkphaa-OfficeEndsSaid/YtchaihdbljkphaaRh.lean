/-
  Heir of the reference. No statement of the seat is proved here.
-/
import Derived.Test.YtchaihdbljkphaaRc
import Derived.Test.YtchaihdbljkphaaUn0
namespace Go.Proofs.Ytchaihdbljkphaa
open Go Go.RowKit Go.Maps Go.Joins

set_option maxRecDepth 100000 in
set_option maxHeartbeats 8000000 in
theorem refHeir_any (p : Option Addr) (n c : Nat) (l : List Off) (id d : Int) (w : World) (hL : OffsAt w p l) (hl : l.length = n) (hn : n ≤ 1000) (hF : ∀ x ∈ l, FitO x) :
    Calls Try.prog 12 #[.slice p n c, .int .i64 id, .int .i64 d] w fun e w' => e = .returned (hrV (heirF (gl l) d id)) ∧ Below w.heap.size w w' := by
  obtain ⟨ch, hch, hc2⟩ := (gl_good l).chl d id
  obtain ⟨R, hR⟩ : ∃ R, hrV (heirF (gl l) d id) = R := ⟨_, rfl⟩
  rw [hR]
  rw [heirF_is hch] at hR
  have HR := Lib.hid hR
  have HL := Lib.hid hl
  have LV := Lib.hid (fun (v : World) (h : Below w.heap.size w v) => hL.next h)
  have CC := Lib.hid (refChain_any p n c l id d w hL hl hn hF ch hch hc2)
  have FD := Lib.hid (fun z v h => refFind_any p n c l z v (LV.out v h) hl hn)
  obtain ⟨I, E, hIE⟩ := ochk_ex l
  have CG := Lib.hid (chl_good hIE hch)
  have C2 := Lib.hid hc2
  clear hL hl hF hch hc2 hIE hR
  go_enter Try.func12, Try.ntmps12
  go_wp2_with fail
  refine CC.out.mono ?_
  rintro e w1 ⟨r, rfl, hr, hb⟩
  obtain ⟨pc, cc, rfl, hI, hcc⟩ := hr.open2
  have N1 := Lib.hid hb
  clear hr hb CC
  have key : ch = [] ∨ (GoodO l ∧ Ch l d id ch) := by
    rcases CG.out with ⟨_, h⟩ | ⟨_, h1, ⟨_, h⟩ | h⟩
    · exact .inl h
    · exact .inl h
    · exact .inr ⟨h1, h⟩
  rcases key with rfl | ⟨hG, hc⟩
  · have d0 : (((0 : Nat) : Int) == 0) = true := rfl
    have T : R = .tuple #[.int .i64 0, .bool false] := HR.out.symm
    subst T
    clear hI hcc
    go_wp2_with fail
    go_ret2
    exact ⟨rfl, N1.out⟩
  have HE := HR.out
  rw [← show hrE l d ch = hrE (gl l) d ch by rw [gl_of hG]] at HE
  obtain ⟨z, x, hz, h0, hx, hr⟩ := hrE_last hc
  rw [hr] at HE
  obtain ⟨k, hk, hlk, hkn⟩ := fixV_some hx
  obtain ⟨gb, go, hpc, hcell⟩ := hI.get hz
  subst hpc
  have zb := World.block_lt_of_cell? w1 _ hcell
  obtain ⟨m, hm⟩ : ∃ m, ch.length = m := ⟨_, rfl⟩
  rw [hm] at hcell h0 hcc ⊢
  have m32 : m ≤ 32 := by rw [← hm]; exact C2.out
  have kn : k < n := by rw [← HL.out]; exact hkn
  have d0 : ((m : Int) == 0) = false := by simp; omega
  have i1 : (0 : Int) ≤ (m : Int) - 1 := by omega
  have i2 : (m : Int) - 1 < (m : Int) := by omega
  have i3 : ((m : Int) - 1).toNat = m - 1 := by omega
  have i4 : IntKind.i64.wrap ((m : Int) - 1) = (m : Int) - 1 := IntWalk.i64_in _ (by omega)
  have i8 : (1 : Int) ≤ (m : Int) := by omega
  have F1 := Lib.hid (FD.out z w1 N1.out)
  rw [hk] at F1
  obtain ⟨pb, po, hpp, ha, _⟩ := (LV.out w1 N1.out).get hlk
  subst hpp
  have p2 := ha.2.2.1; have p3 := ha.2.2.2.1
  have zb2 := ha.lt
  have k1 : (0 : Int) ≤ (k : Int) := by omega
  have k2 : (k : Int) < (n : Int) := by omega
  obtain ⟨B, hB⟩ : ∃ B, inD x d = B := ⟨_, rfl⟩
  rw [hB] at HE
  have HB := Lib.hid hB
  have HEE := Lib.hid HE
  clear hI hz hx hr hk hlk hkn hm ha hB HE hG hc
  go_wp2_with fail
  refine F1.out.mono ?_
  rintro e w2 ⟨rfl, rfl⟩
  go_wp2_with fail
  refine (In_any _ _ _ _).mono ?_
  rintro e w3 ⟨rfl, hb⟩
  rw [has_in, HB.out]
  have N3 := Lib.hid (N1.out.trans (hb.mono N1.out.size))
  have c3 := cell_next hcell hb
  have zb3 := World.block_lt_of_cell? w3 _ c3
  clear hb hcell zb p2 p3 zb2
  cases B with
  | true =>
    have T : R = .tuple #[.int .i64 z, .bool true] := HEE.out.symm
    subst T
    go_wp2_with fail
    go_ret2
    exact ⟨rfl, N3.out⟩
  | false =>
    have T : R = .tuple #[.int .i64 0, .bool false] := HEE.out.symm
    subst T
    go_wp2_with fail
    go_ret2
    exact ⟨rfl, N3.out⟩

end Go.Proofs.Ytchaihdbljkphaa
