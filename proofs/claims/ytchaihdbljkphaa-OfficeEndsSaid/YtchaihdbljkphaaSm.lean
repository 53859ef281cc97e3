/-
  The reference's Same, for two lists of offices that read alike. No statement of the seat is proved here.
-/
import Derived.Test.YtchaihdbljkphaaCz
import Derived.Deep.QuietTactic
import Derived.BigQuiet
namespace Go.Proofs.Ytchaihdbljkphaa
open Go Go.RowKit Go.Maps Go.Joins

theorem drewN_add (w : World) (a b : Nat) : (w.drewN a).drewN b = w.drewN (a + b) := by
  simp [World.drewN, Nat.add_assoc]

set_option maxRecDepth 100000 in
set_option maxHeartbeats 4000000 in
theorem same_intsD (p q : Option Addr) (l : List Int) (c d : Nat) (w : World) (hp : IntsAt w p l) (hq : IntsAt w q l) (hs : l.length ≤ 100000) :
    Calls Try.prog 13 #[.slice p l.length c, .slice q l.length d] w fun e w' => e = .returned (.bool true) ∧ ∃ m, w' = w.drewN m := by
  obtain ⟨n, hn⟩ : ∃ n, l.length = n := ⟨_, rfl⟩
  rw [hn] at hs ⊢
  have HN := Lib.hid hn
  have HP := Lib.hid (fun v (h : Below w.heap.size w v) => hp.next h)
  have HQ := Lib.hid (fun v (h : Below w.heap.size w v) => hq.next h)
  have d0 : ((n : Int) != (n : Int)) = false := by simp
  clear hn hp hq
  go_enter Try.func13, Try.ntmps13
  go_wp2_with fail
  go_loopw [5] (fun i wr => ∃ k : Nat, k ≤ n ∧ i = .int .i64 k ∧ ∃ m, wr = w.drewN m) (fun i _ => n - iv i)
  case atStart => exact ⟨0, Nat.zero_le _, rfl, 0, rfl⟩
  case round =>
    obtain ⟨k, hk, rfl, dd, hdd⟩ := hrel
    have NB : Hid (Below w.heap.size w wr) := by show Below _ _ _; rw [hdd]; exact below_drewN (Below.refl _ _) _
    have DD := Lib.hid hdd
    clear hdd
    by_cases hkn : k < n
    · obtain ⟨z, hz⟩ : ∃ z, l[k]? = some z := ⟨_, List.getElem?_eq_getElem (by rw [HN.out]; exact hkn)⟩
      obtain ⟨b1, o1, e1, h1⟩ := (HP.out wr NB.out).get hz
      obtain ⟨b2, o2, e2, h2⟩ := (HQ.out wr NB.out).get hz
      have z1 := World.block_lt_of_cell? wr _ h1
      have z2 := World.block_lt_of_cell? wr _ h2
      have hkd : decide ((k : Int) < (n : Int)) = true := by simp; omega
      have k1 : (0 : Int) ≤ (k : Int) := by omega
      have k2 : (k : Int) < (n : Int) := by omega
      have dz : (z != z) = false := by simp
      have dz2 : (z == z) = true := by simp
      clear hz
      rw [e1, e2]
      go_wp2_with fail
      go_quiet (fail)
      go_wp2_with fail
      go_roundw
      case rel => exact ⟨k + 1, by omega, by go_num, dd + nq, by rw [DD.out]; exact drewN_add w dd nq⟩
      case measure => simp only [iv]; omega
    · obtain rfl : k = n := by omega
      have hkd : decide ((k : Int) < (k : Int)) = false := by simp
      go_wp2_with fail
      go_ret
      exact ⟨rfl, dd, DD.out⟩

set_option maxRecDepth 100000 in
set_option maxHeartbeats 8000000 in
theorem Same_any (p q : Option Addr) (n c d : Nat) (l m : List Off) (w : World) (hL : OffsAt w p l) (hM : OffsAt w q m) (hl : l.length = n) (hm : m.length = n) (hn : n ≤ 1000) (hF : ∀ x ∈ l, x.nx.length ≤ 100000) (hE : ∀ (j : Nat) (a b : Off), l[j]? = some a → m[j]? = some b → EqO a b) :
    Calls Try.prog 22 #[.slice p n c, .slice q n d] w fun e w' => e = .returned (.bool true) ∧ Below w.heap.size w w' := by
  have HL := Lib.hid hl; have HM := Lib.hid hm
  have LV := Lib.hid (fun (v : World) (h : Below w.heap.size w v) => hL.next h)
  have MV := Lib.hid (fun (v : World) (h : Below w.heap.size w v) => hM.next h)
  have FF := Lib.hid hF; have EE := Lib.hid hE
  have d0 : ((n : Int) != (n : Int)) = false := by simp
  clear hL hM hl hm hF hE
  go_enter Try.func22, Try.ntmps22
  go_wp2_with fail
  go_loopw [5] (fun i wr => ∃ k : Nat, k ≤ n ∧ i = .int .i64 k ∧ Below w.heap.size w wr) (fun i _ => n - iv i)
  case atStart => exact ⟨0, Nat.zero_le _, rfl, Below.refl _ _⟩
  case round =>
    obtain ⟨k, hk, rfl, hB⟩ := hrel
    have NB := Lib.hid hB
    clear hB
    by_cases hkn : k < n
    · obtain ⟨x, hx⟩ : ∃ x, l[k]? = some x := ⟨_, List.getElem?_eq_getElem (by rw [HL.out]; exact hkn)⟩
      obtain ⟨y, hy⟩ : ∃ y, m[k]? = some y := ⟨_, List.getElem?_eq_getElem (by rw [HM.out]; exact hkn)⟩
      obtain ⟨b1, o1, e1, ha, hi1⟩ := (LV.out wr NB.out).get hx
      obtain ⟨b2, o2, e2, hb, hi2⟩ := (MV.out wr NB.out).get hy
      have q0 := ha.1; have q1 := ha.2.1; have q2 := ha.2.2.1; have q3 := ha.2.2.2.1; have q4 := ha.2.2.2.2
      have r0 := hb.1; have r1 := hb.2.1; have r2 := hb.2.2.1; have r3 := hb.2.2.2.1; have r4 := hb.2.2.2.2
      have z1 := ha.lt; have z2 := hb.lt
      obtain ⟨s1, s2, s3, s4, s5⟩ := EE.out k x y hx hy
      rw [← s1] at r0
      rw [← s2] at r1
      rw [← s3] at r2
      rw [← s4] at r3
      rw [← s5] at r4 hi2
      have SI := Lib.hid (fun v (h : Below w.heap.size w v) => same_intsD x.np y.np x.nx x.nc y.nc v (((LV.out v h).get hx).choose_spec.choose_spec.2.2) (by have := ((MV.out v h).get hy).choose_spec.choose_spec.2.2; rw [← s5] at this; exact this) (FF.out x (List.mem_of_getElem? hx)))
      obtain ⟨mx, hmx⟩ : ∃ mx, x.nx.length = mx := ⟨_, rfl⟩
      rw [hmx] at q4 r4 SI
      have hkd : decide ((k : Int) < (n : Int)) = true := by simp; omega
      have k1 : (0 : Int) ≤ (k : Int) := by omega
      have k2 : (k : Int) < (n : Int) := by omega
      have g0 : (x.id != x.id) = false := by simp
      have g1 : (x.nm != x.nm) = false := by first | simp | (show (!(x.nm.data == x.nm.data)) = false; simp)
      have g2 : (x.fr != x.fr) = false := by simp
      have g3 : (x.un != x.un) = false := by simp
      rw [e1, e2]
      clear hx hy ha hb hi1 hi2 s1 s2 s3 s4 s5 hmx e1 e2
      go_wp2_with fail
      go_quiet ((go_at_call 13; exact Calls.quiet_of (SI.out _ (below_drewN NB.out _))))
      go_wp2_with fail
      go_roundw
      case rel => exact ⟨k + 1, by omega, by go_num, below_drewN NB.out _⟩
      case measure => simp only [iv]; omega
    · obtain rfl : k = n := by omega
      have hkd : decide ((k : Int) < (k : Int)) = false := by simp
      go_wp2_with fail
      go_ret
      exact ⟨rfl, NB.out⟩

end Go.Proofs.Ytchaihdbljkphaa
