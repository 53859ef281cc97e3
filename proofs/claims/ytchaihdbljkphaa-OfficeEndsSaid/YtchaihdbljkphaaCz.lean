/-
  The reference's Copy, for any list of offices. No statement of the seat is proved here.
-/
import Derived.Test.YtchaihdbljkphaaCy
namespace Go.Proofs.Ytchaihdbljkphaa
open Go Go.RowKit Go.Maps Go.Joins

/-- What stands at a round's end of the copy. -/
theorem copy_step {w2 wr : World} {B k mx c9 : Nat} {v : Value} {l m : List Off} {x : Off} {q9 : Option Addr} (hB : Below wr.heap.size wr w2) (hm : x.nx.length = mx) (hC : CR wr B v k l m) (hz : B ≤ wr.heap.size) (hI : IntsAt w2 q9 x.nx) (ha : ∀ a, q9 = some a → wr.heap.size + 1 ≤ a.block ∧ a.block < w2.heap.size) :
    CR ((w2.setCell ⟨wr.heap.size, 4, none⟩ (.slice q9 mx c9)).alloc (.cells #[.int .i64 x.id, .string x.nm, .int .i64 x.fr, .int .i64 x.un, .slice q9 mx c9] 43)) B v k l m ∧ (∀ j u, (cellsO { x with np := q9, nc := c9 })[j]? = some u → ((w2.setCell ⟨wr.heap.size, 4, none⟩ (.slice q9 mx c9)).alloc (.cells #[.int .i64 x.id, .string x.nm, .int .i64 x.fr, .int .i64 x.un, .slice q9 mx c9] 43)).cell? ((⟨w2.heap.size, 0, none⟩ : Addr).add j) = some u) ∧ (∀ u ∈ cellsO { x with np := q9, nc := c9 }, u.oneCell' = true) ∧
      B ≤ ((w2.setCell ⟨wr.heap.size, 4, none⟩ (.slice q9 mx c9)).alloc (.cells #[.int .i64 x.id, .string x.nm, .int .i64 x.fr, .int .i64 x.un, .slice q9 mx c9] 43)).heap.size ∧ IntsAt ((w2.setCell ⟨wr.heap.size, 4, none⟩ (.slice q9 mx c9)).alloc (.cells #[.int .i64 x.id, .string x.nm, .int .i64 x.fr, .int .i64 x.un, .slice q9 mx c9] 43)) q9 x.nx ∧ (x.nx = [] ∨ ∀ a, q9 = some a → some a.block ≠ v.ownBlock ∧ a.block < ((w2.setCell ⟨wr.heap.size, 4, none⟩ (.slice q9 mx c9)).alloc (.cells #[.int .i64 x.id, .string x.nm, .int .i64 x.fr, .int .i64 x.un, .slice q9 mx c9] 43)).heap.size) ∧ Below wr.heap.size wr ((w2.setCell ⟨wr.heap.size, 4, none⟩ (.slice q9 mx c9)).alloc (.cells #[.int .i64 x.id, .string x.nm, .int .i64 x.fr, .int .i64 x.un, .slice q9 mx c9] 43)) := by
  have B3 : Below wr.heap.size wr (w2.setCell ⟨wr.heap.size, 4, none⟩ (.slice q9 mx c9)) := hB.setCell (Nat.le_refl _) _
  have B4 := B3.alloc B3.size (.cells #[.int .i64 x.id, .string x.nm, .int .i64 x.fr, .int .i64 x.un, .slice q9 mx c9] 43)
  have S3 : (w2.setCell ⟨wr.heap.size, 4, none⟩ (.slice q9 mx c9)).heap.size = w2.heap.size := by simp
  have S4 : ((w2.setCell ⟨wr.heap.size, 4, none⟩ (.slice q9 mx c9)).alloc (.cells #[.int .i64 x.id, .string x.nm, .int .i64 x.fr, .int .i64 x.un, .slice q9 mx c9] 43)).heap.size = w2.heap.size + 1 := by simp
  have NEWS := cell_five_new (w2.setCell ⟨wr.heap.size, 4, none⟩ (.slice q9 mx c9)) { x with np := q9, nc := c9 } 43
  rw [S3] at NEWS
  have hm2 : ({ x with np := q9, nc := c9 } : Off).nx.length = mx := hm
  rw [hm2] at NEWS
  refine ⟨hC.next B4, NEWS, fun u hu => offC_one [{ x with np := q9, nc := c9 }] u (List.mem_append_left _ hu), ?_, ?_, .inr fun a h => ⟨?_, ?_⟩, B4⟩
  · rw [S4]
    have := hB.size
    omega
  · exact (ints_grown hI (.inr fun a h => ⟨by intro q; have := Option.some.inj q; have := (ha a h).1; omega, (ha a h).2⟩) (grown_set w2 wr.heap.size 4 (.slice q9 mx c9))).next ((Below.refl _ _).alloc (Nat.le_refl _) (.cells #[.int .i64 x.id, .string x.nm, .int .i64 x.fr, .int .i64 x.un, .slice q9 mx c9] 43))
  · intro q
    have := (hC.row.lt a.block q.symm).2
    have := (ha a h).1
    omega
  · rw [S4]
    have := (ha a h).2
    omega

set_option maxRecDepth 100000 in
set_option maxHeartbeats 8000000 in
theorem Copy_any (p : Option Addr) (n c : Nat) (l : List Off) (w : World) (hL : OffsAt w p l) (hl : l.length = n) (h0 : 0 < n) (hn : n ≤ 1000) (hF : ∀ x ∈ l, FitO x) :
    Calls Try.prog 44 #[.slice p n c] w fun e w' => ∃ g cap m, e = .returned (.slice (some ⟨g, 0, none⟩) n cap) ∧ Cpy w' g l m ∧ w.heap.size ≤ g ∧ Below w.heap.size w w' := by
  have HL := Lib.hid hl
  have LV := Lib.hid (fun (v : World) (h : Below w.heap.size w v) => hL.next h)
  have FF := Lib.hid hF
  have B0 : Hid (Below w.heap.size w (w.alloc (.cells #[] 43))) := (Below.refl _ _).alloc (Nat.le_refl _) _
  have R0 : Hid (CR (w.alloc (.cells #[] 43)) w.heap.size (.slice (some ⟨w.heap.size, 0, none⟩) 0 0) 0 l []) := ⟨rfl, row_empty5 w, (fun x hx => by cases hx), (fun j a b _ hb => by simp at hb)⟩
  clear hL hl hF
  go_enter Try.func44, Try.ntmps44
  go_wp2_with fail
  go_loopw [3, 4] (fun v i wr => ∃ (k : Nat) (m : List Off), k ≤ n ∧ i = .int .i64 k ∧ CR wr w.heap.size v k l m ∧ Below w.heap.size w wr) (fun _ i _ => n - iv i)
  case atStart => exact ⟨0, [], Nat.zero_le _, rfl, R0.out, B0.out⟩
  case round =>
    obtain ⟨k, m, hk, rfl, hR, hB⟩ := hrel
    have RR := Lib.hid hR; have NB := Lib.hid hB
    clear hR hB R0 B0
    by_cases hkn : k < n
    · obtain ⟨x, hx⟩ : ∃ x, l[k]? = some x := ⟨_, List.getElem?_eq_getElem (by rw [HL.out]; exact hkn)⟩
      have hkd : decide ((k : Int) < (n : Int)) = true := by simp; omega
      have k1 : (0 : Int) ≤ (k : Int) := by omega
      have k2 : (k : Int) < (n : Int) := by omega
      obtain ⟨blk, off, e1, ha, hxn⟩ := (LV.out wr NB.out).get hx
      have q0 := ha.1; have q1 := ha.2.1; have q2 := ha.2.2.1; have q3 := ha.2.2.2.1; have q4 := ha.2.2.2.2
      have zb := ha.lt
      rw [e1]
      have IX := Lib.hid hxn
      have FX := Lib.hid (FF.out x (List.mem_of_getElem? hx))
      have HX := Lib.hid hx
      obtain ⟨mx, hmx⟩ : ∃ mx, x.nx.length = mx := ⟨_, rfl⟩
      have ON := OwnO.new wr x 43
      rw [hmx] at q4 ON
      have HMX := Lib.hid hmx
      have A1 := (Below.refl wr.heap.size wr).alloc (Nat.le_refl _) (.cells #[.int .i64 x.id, .string x.nm, .int .i64 x.fr, .int .i64 x.un, .slice x.np mx x.nc] 43)
      have RW0 := row_empty (wr.alloc (.cells #[.int .i64 x.id, .string x.nm, .int .i64 x.fr, .int .i64 x.un, .slice x.np mx x.nc] 43))
      have S1 : (wr.alloc (.cells #[.int .i64 x.id, .string x.nm, .int .i64 x.fr, .int .i64 x.un, .slice x.np mx x.nc] 43)).heap.size = wr.heap.size + 1 := by simp
      have A2 := A1.alloc A1.size (.cells #[] 3)
      have O1 := Lib.hid (ON.next ((Below.refl _ _).alloc (Nat.le_refl _) (.cells #[] 3)))
      rw [S1] at RW0
      have AA := Lib.hid A2; have RW := Lib.hid RW0
      have I1 := Lib.hid (hxn.next A2)
      have M8 : Hid (mx * 8 ≤ 140737488355328) := by show _ ≤ _; have := FX.out.2.2.2.2.1; rw [hmx] at this; omega
      obtain ⟨i0, hi, hz0, hz1, hz2⟩ := info_parts info43
      clear hx ha hxn e1 hmx ON A1 RW0 A2 S1
      go_wp2_with (at_builtin; first | (refine wp_ints rfl _ _ rfl (wr.heap.size + 1) _ rfl RW.out x.np x.nx mx x.nc rfl HMX.out I1.out M8.out (by simp; try omega) ?_; intro v1 w2 hR hg; have B2 := Lib.hid (AA.out.grown hg (by simp; try omega) (fun j e => by have e2 : wr.heap.size + 1 = j := Option.some.inj e; omega)); have O2 := O1.out.grown hg (by intro q; have q2 : wr.heap.size = wr.heap.size + 1 := Option.some.inj q; omega); obtain ⟨q9, c9, hv, hI9, ha9⟩ := hR.open3; rw [HMX.out] at hv; subst hv; have zb2 := O2.1.lt; have f4 := O2.2 4 (by omega); have t0 := O2.1.1; have t1 := O2.1.2.1; have t2 := O2.1.2.2.1; have t3 := O2.1.2.2.2.1; have t4 := O2.1.2.2.2.2; have FS := Lib.hid (copy_step (c9 := c9) B2.out HMX.out RR.out NB.out.size hI9 ha9)) | (refine wpList_append_own_at _ rfl _ _ 22 rfl w.heap.size 43 i0 _ 5 64 Try.underlying22 hi hz0 hz1 hz2 rfl (by decide) _ _ _ rfl FS.out.1.row ⟨w2.heap.size, 0, none⟩ 1 1 (cellsO { x with np := q9, nc := c9 }) rfl rfl FS.out.2.1 FS.out.2.2.1 (by unfold maxLen; omega) (by omega) FS.out.2.2.2.1 ?_; intro v3 w4 hown hgrow _ hat))
      have R5 := Lib.hid (FS.out.1.push hown hgrow hat FS.out.2.2.2.2.1 FS.out.2.2.2.2.2.1 HX.out ⟨rfl, rfl, rfl, rfl, rfl⟩)
      have B5 := Lib.hid ((NB.out.trans (FS.out.2.2.2.2.2.2.mono NB.out.size)).grown hgrow (Nat.le_trans NB.out.size FS.out.2.2.2.2.2.2.size) (fun j e => (FS.out.1.row.lt j e).1))
      clear hown hgrow hat FS O1 AA RW I1
      go_wp2_with fail
      go_roundw
      case rel => exact ⟨k + 1, _, by omega, by go_num, R5.out, B5.out⟩
      case measure => simp only [iv]; omega
    · obtain rfl : k = n := by omega
      have hkd : decide ((k : Int) < (k : Int)) = false := by simp
      obtain ⟨g, cap, rfl, hC, hg⟩ := RR.out.cpy HL.out h0
      have HC := Lib.hid hC; have HG := Lib.hid hg
      clear hC hg RR
      go_wp2_with fail
      go_ret
      exact ⟨g, cap, m, rfl, HC.out, HG.out, NB.out⟩

end Go.Proofs.Ytchaihdbljkphaa
