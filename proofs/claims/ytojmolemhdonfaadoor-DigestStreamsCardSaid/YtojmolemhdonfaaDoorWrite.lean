/-
  What Write answers, walked over the program's text. No statement of the seat is proved here.
-/
import Derived.Test.YtojmolemhdonfaaDoorTake
namespace Go.Proofs.YtojmolemhdonfaaDoor
open Go.RowKit Kec

theorem take_snoc (s : ByteArray) (k : Nat) (h : k < s.size) : s.data.toList.take (k + 1) = s.data.toList.take k ++ [s[k]] := by
  rw [List.take_succ_eq_append_getElem (by simpa using h)]; rfl
/-- Bytes taken in, one behind the other. -/
def absorb (s : (Nat → W) × Nat) (l : List UInt8) : (Nat → W) × Nat := l.foldl (fun s c => takeS s c.toNat) s
theorem absorb_nil (s : (Nat → W) × Nat) : absorb s [] = s := rfl
theorem absorb_append (s : (Nat → W) × Nat) (l m : List UInt8) : absorb s (l ++ m) = absorb (absorb s l) m := by simp [absorb]
theorem absorb_snoc (s : (Nat → W) × Nat) (l : List UInt8) (c : UInt8) : absorb s (l ++ [c]) = takeS (absorb s l) c.toNat := by simp [absorb]
theorem absorb_count (s : (Nat → W) × Nat) (l : List UInt8) : (absorb s l).2 = s.2 + l.length := by
  induction l generalizing s with
  | nil => rfl
  | cons c l ih =>
    have : absorb s (c :: l) = absorb (takeS s c.toNat) l := rfl
    rw [this, ih]
    simp [takeS]; omega
/-- All bytes of some strings, one behind the other. -/
def join (ss : List ByteArray) : List UInt8 := ss.flatMap fun s => s.data.toList
theorem join_snoc (ss : List ByteArray) (s : ByteArray) : join (ss ++ [s]) = join ss ++ s.data.toList := by simp [join]
theorem join_take {ss : List ByteArray} {k : Nat} (h : k < ss.length) : join (ss.take (k + 1)) = join (ss.take k) ++ ss[k].data.toList := by
  rw [List.take_succ_eq_append_getElem h, join_snoc]
theorem join_le (ss : List ByteArray) (k : Nat) : (join (ss.take k)).length ≤ (join ss).length := by
  have h : join ss = join (ss.take k) ++ join (ss.drop k) := by
    unfold join
    rw [← List.flatMap_append, List.take_append_drop]
  rw [h, List.length_append]; omega

set_option maxRecDepth 100000 in
set_option maxHeartbeats 2000000 in
theorem write_any (b : Nat) (f : Nat → W) (t : Nat) (v : Value) (c o cap : Nat) (ss : List ByteArray) (w : World) (hB : HBlk w b f t) (hT : Tabs w) (hb1 : 1 < b)
    (hv : v = .slice (some ⟨c, o, none⟩) ss.length cap) (hS : ∀ i (h : i < ss.length), w.cell? ⟨c, o + i, none⟩ = some (.string ss[i])) (hcb : c ≠ b)
    (hl : (ss.length : Int) ≤ 4611686018427387904) (ht : ((t + (join ss).length : Nat) : Int) ≤ 4611686018427387904) :
    Calls Tryd.prog 21 #[.pointer (some ⟨b, 0, none⟩), v] w fun e w' => e = .returned (.int .i64 ((absorb (f, t) (join ss)).2 : Nat)) ∧ HBlk w' b (absorb (f, t) (join ss)).1 ((absorb (f, t) (join ss)).2 : Nat) ∧ Mod b w w' := by
  subst hv
  have HB := Lib.hid hB; have HT := Lib.hid hT; have HS := Lib.hid hS; have Ht := Lib.hid ht
  clear hB hT hS ht
  go_enter Tryd.func21, Tryd.ntmps21
  go_wp2
  go_loopw [10] (fun i wr => ∃ k : Nat, k ≤ ss.length ∧ i = .int .i64 k ∧ Mod b w wr ∧ HBlk wr b (absorb (f, t) (join (ss.take k))).1 ((absorb (f, t) (join (ss.take k))).2 : Nat)) (fun i _ => ss.length - (intOf i).toNat)
  case atStart => exact ⟨0, Nat.zero_le _, rfl, Mod.refl b w, HB.out⟩
  case round =>
    obtain ⟨k, hk, rfl, hm, hh⟩ := hrel
    by_cases hlt : k < ss.length
    · have hkd : decide ((k : Int) < (ss.length : Int)) = true := by simp; omega
      have hcell := HS.out k hlt
      have hcw : wr.cell? ⟨c, o + k, none⟩ = some (.string ss[k]) := (cell_mod hm (a := ⟨c, o + k, none⟩) (World.block_lt_of_cell? w _ hcell) hcb).trans hcell
      have hsz : (ss[k].size : Int) ≤ 4611686018427387904 := by
        have h1 := join_take hlt
        have h2 := join_le ss (k + 1)
        rw [h1, List.length_append] at h2
        have h3 := Ht.out
        have : ss[k].data.toList.length = ss[k].size := by simp
        omega
      have HJ := Lib.hid (join_take hlt)
      have HL := Lib.hid (join_le ss (k + 1))
      have HM := Lib.hid hm; have HH := Lib.hid hh
      obtain ⟨s, hs⟩ : ∃ s, ss[k] = s := ⟨_, rfl⟩
      rw [hs] at hcw hsz
      have HSs := Lib.hid hs
      clear hcell hm hh hs
      go_wp2
      obtain ⟨wo, rfl⟩ : ∃ wo : World, wo = wr := ⟨_, rfl⟩
      go_loopw [16] (fun i wr => ∃ j : Nat, j ≤ s.size ∧ i = .int .i64 j ∧ Mod b w wr ∧ HBlk wr b (absorb (f, t) (join (ss.take k) ++ s.data.toList.take j)).1 ((absorb (f, t) (join (ss.take k) ++ s.data.toList.take j)).2 : Nat)) (fun i _ => s.size - (intOf i).toNat)
      case atStart => exact ⟨0, Nat.zero_le _, rfl, HM.out, by simpa using HH.out⟩
      case round =>
        obtain ⟨j, hj, rfl, hm, hh⟩ := hrel
        by_cases hlt2 : j < s.size
        · have hc : ((s[j].toNat : Nat) : Int) < 256 := by have := s[j].toNat_lt; omega
          have hcount : (((absorb (f, t) (join (ss.take k) ++ s.data.toList.take j)).2 : Nat) : Int) ≤ 4611686018427387904 := by
            have h2 := HL.out
            have h3 := Ht.out
            rw [HJ.out, List.length_append, HSs.out] at h2
            rw [absorb_count]
            have : s.data.toList.length = s.size := by simp
            have : (s.data.toList.take j).length ≤ j := List.length_take_le _ _
            rw [List.length_append]
            show (((t : Nat) + _ : Nat) : Int) ≤ _
            omega
          have HTk := Lib.hid (take_snoc s j hlt2)
          have HM2 := Lib.hid hm; have HH2 := Lib.hid hh
          clear hm hh
          go_wp2_with fail
          refine (take_any b _ _ s[j].toNat wr HH2.out (HT.out.mod HM2.out hb1) hb1 hc hcount).mono ?_
          rintro e w2 ⟨rfl, hB2, hm2⟩
          have HB2 := Lib.hid hB2
          have HM3 := Lib.hid (HM2.out.trans hm2)
          clear hB2 hm2
          go_wp2
          go_roundw
          case rel =>
            refine ⟨j + 1, by omega, by go_num, HM3.out, ?_⟩
            have e1 : absorb (f, t) (join (ss.take k) ++ s.data.toList.take (j + 1)) = takeS (absorb (f, t) (join (ss.take k) ++ s.data.toList.take j)) s[j].toNat := by
              rw [HTk.out, ← List.append_assoc, absorb_snoc]
            rw [e1]
            exact HB2.out
          case measure => simp [intOf]; omega
        · have hj2 : j = s.size := by omega
          have HE : Hid (join (ss.take k) ++ s.data.toList.take j = join (ss.take (k + 1))) := by
            show join (ss.take k) ++ s.data.toList.take j = join (ss.take (k + 1))
            have hE : s.data.toList.take j = s.data.toList := List.take_of_length_le (by rw [hj2]; simp)
            rw [HJ.out, HSs.out, hE]
          have HM2 := Lib.hid hm; have HH2 := Lib.hid hh
          clear hm hh hj2
          go_wp2
          go_roundw
          case rel => exact ⟨k + 1, by omega, by go_num, HM2.out, by rw [← HE.out]; exact HH2.out⟩
          case measure => simp [intOf]; omega
    · have hk2 : k = ss.length := by omega
      have HE : Hid (join (ss.take k) = join ss) := by show join (ss.take k) = join ss; rw [hk2, List.take_length]
      have hcount := hh.count
      have HM := Lib.hid hm; have HH := Lib.hid hh
      clear hm hh hk2
      go_wp2
      go_ret
      exact ⟨by rw [← HE.out]; rfl, by rw [← HE.out]; exact HH.out, HM.out⟩
end Go.Proofs.YtojmolemhdonfaaDoor
