/-
  What divide answers. No statement of the seat is proved here.
-/
import Derived.Test.YtcgjhbjbfdbfaaaDl
namespace Go.Proofs.Ytcgjhbjbfdbfaaa
open Go.RowKit

/-- A piece has a day, and does not begin there. -/
abbrev midP (F U : Nat → Int) (d : Int) (i : Nat) : Prop := F i < d ∧ d < U i

set_option maxRecDepth 100000 in
set_option maxHeartbeats 4000000 in
theorem divide_none (p : Option Addr) (n cap : Nat) (F U V : Nat → Int) (d : Int) (w : World) (hP : PcsAt w p n F U V) (hn : (n : Int) ≤ 1099511627776)
    (hv : ∀ i : Nat, i < n → ¬ midP F U d i) :
    Calls Try.prog 44 #[.slice p n cap, .int .i64 d] w fun e w' => e = .returned (.slice p n cap) ∧ Below w.heap.size w w' := by
  have HP := Lib.hid hP; have HV := Lib.hid hv
  clear hP hv
  go_enter Try.func44, Try.ntmps44
  go_wp2
  go_loopw [0, 9] (fun l i wr => ∃ k : Nat, k ≤ n ∧ l = .slice p n cap ∧ i = .int .i64 k ∧ Below w.heap.size w wr) (fun _ i _ => n - (intOf i).toNat)
  case atStart => exact ⟨0, Nat.zero_le _, rfl, rfl, by go_grown⟩
  case round =>
    obtain ⟨k, hk, rfl, rfl, hb⟩ := hrel
    have NB := Lib.hid hb
    by_cases hkn : k < n
    · obtain ⟨blk, off, rfl, hpc⟩ := HP.out.get hkn
      have PW := Lib.hid (hpc.below hb hpc.lt)
      have hkd : decide ((k : Int) < (n : Int)) = true := by simp; omega
      have q0 := PW.out.1; have q1 := PW.out.2.1; have q2 := PW.out.2.2
      have zb := PW.out.lt
      clear hb hpc
      by_cases hin : F k ≤ d ∧ d < U k
      · have e : decide (F k ≤ d ∧ d < U k) = true := decide_eq_true hin
        have e2 : decide (F k < d) = false := decide_eq_false (fun g => HV.out k hkn ⟨g, hin.2⟩)
        clear hin
        go_wp2_with fail
        refine (has_any _ _ _ _).mono ?_
        rintro e w' ⟨rfl, hb⟩
        have MB : Hid (Below w.heap.size w w') := (NB.out.alloc NB.out.size _).trans (hb.mono (by have := NB.out.size; simp; omega))
        have MP := Lib.hid ((Pc.new wr (F k) (U k) (V k) 47).next hb)
        clear hb q0 q1 q2
        have q0 := MP.out.1; have q1 := MP.out.2.1; have q2 := MP.out.2.2
        simp only [Nat.zero_add] at q1 q2
        have zb' := MP.out.lt
        rw [e]
        go_wp2
        go_roundw
        case rel => exact ⟨k + 1, by omega, rfl, by go_num, MB.out⟩
        case measure => simp [intOf]; omega
      · have e : decide (F k ≤ d ∧ d < U k) = false := decide_eq_false hin
        clear hin
        go_wp2_with fail
        refine (has_any _ _ _ _).mono ?_
        rintro e w' ⟨rfl, hb⟩
        have MB : Hid (Below w.heap.size w w') := (NB.out.alloc NB.out.size _).trans (hb.mono (by have := NB.out.size; simp; omega))
        clear hb
        rw [e]
        go_wp2
        go_roundw
        case rel => exact ⟨k + 1, by omega, rfl, by go_num, MB.out⟩
        case measure => simp [intOf]; omega
    · have hkd : decide ((k : Int) < (n : Int)) = false := by simp; omega
      clear hb
      go_wp2
      go_ret
      exact ⟨rfl, NB.out⟩

/-- A list with one more in it, at m. -/
def ins (f : Nat → Int) (m : Nat) (x : Int) (i : Nat) : Int := if i < m then f i else if i = m then x else f (i - 1)
/-- Piece m parted at a day. -/
def cutF (F : Nat → Int) (m : Nat) (d : Int) (i : Nat) : Int := if i ≤ m then F i else if i = m + 1 then d else F (i - 1)
def cutU (U : Nat → Int) (m : Nat) (d : Int) (i : Nat) : Int := if i < m then U i else if i = m then d else U (i - 1)
def cutV (V : Nat → Int) (m : Nat) (i : Nat) : Int := if i ≤ m then V i else V (i - 1)
/-- What Insert leaves. -/
def Inserted (b n m : Nat) (F U V : Nat → Int) (f u v : Int) (wq : World) (e : Ending) (w' : World) : Prop :=
  ∃ b2 N2 cap2 vs2, e = .returned (.slice (some ⟨b2, 0, none⟩) (n + 1) cap2) ∧ HoldsN N2 w' b2 vs2 ∧ n + 1 ≤ cap2 ∧ cap2 * 3 ≤ N2 ∧ lies vs2 (n + 1) (ins F m f) (ins U m u) (ins V m v) ∧ b ≤ b2 ∧ Below b wq w'

theorem cut_lies {n k : Nat} {F U V : Nat → Int} {d : Int} {vs : Nat → Value} (h : lies vs n (ins F k (F k)) (ins U k (U k)) (ins V k (V k))) :
    lies (fun q => if q = (k + 1) * 3 then .int .i64 d else if q = k * 3 + 1 then .int .i64 d else vs q) n (cutF F k d) (cutU U k d) (cutV V k) := by
  intro i hi
  have g := h i hi
  simp only [ins] at g
  simp only [cutF, cutU, cutV]
  rw [if_neg (show ¬ i * 3 + 1 = (k + 1) * 3 by omega), if_neg (show ¬ i * 3 + 2 = (k + 1) * 3 by omega), if_neg (show ¬ i * 3 + 2 = k * 3 + 1 by omega), if_neg (show ¬ i * 3 = k * 3 + 1 by omega)]
  rcases (show i < k ∨ i = k ∨ i = k + 1 ∨ k + 1 < i by omega) with c | c | c | c
  · rw [if_pos c, if_pos c, if_pos c] at g
    rw [if_neg (show ¬ i * 3 = (k + 1) * 3 by omega), if_neg (show ¬ i * 3 + 1 = k * 3 + 1 by omega), if_pos (show i ≤ k by omega), if_pos c, if_pos (show i ≤ k by omega)]
    exact g
  · have z : ¬ i < k := by omega
    rw [if_neg z, if_neg z, if_neg z, if_pos c, if_pos c, if_pos c] at g
    rw [if_neg (show ¬ i * 3 = (k + 1) * 3 by omega), if_pos (show i * 3 + 1 = k * 3 + 1 by omega), if_pos (show i ≤ k by omega), if_neg z, if_pos c, if_pos (show i ≤ k by omega), show F i = F k by rw [c], show V i = V k by rw [c]]
    exact ⟨g.1, rfl, g.2.2⟩
  · have z : ¬ i < k := by omega
    have z2 : ¬ i = k := by omega
    have z3 : ¬ i ≤ k := by omega
    rw [if_neg z, if_neg z, if_neg z, if_neg z2, if_neg z2, if_neg z2] at g
    rw [if_pos (show i * 3 = (k + 1) * 3 by omega), if_neg (show ¬ i * 3 + 1 = k * 3 + 1 by omega), if_neg z3, if_pos c, if_neg z, if_neg z2, if_neg z3]
    exact ⟨rfl, g.2⟩
  · have z : ¬ i < k := by omega
    have z2 : ¬ i = k := by omega
    have z3 : ¬ i ≤ k := by omega
    rw [if_neg z, if_neg z, if_neg z, if_neg z2, if_neg z2, if_neg z2] at g
    rw [if_neg (show ¬ i * 3 = (k + 1) * 3 by omega), if_neg (show ¬ i * 3 + 1 = k * 3 + 1 by omega), if_neg z3, if_neg (show ¬ i = k + 1 by omega), if_neg z, if_neg z2, if_neg z3]
    exact g

set_option maxRecDepth 100000 in
set_option maxHeartbeats 4000000 in
theorem divide_mid (b N n cap m : Nat) (F U V : Nat → Int) (d : Int) (vs : Nat → Value) (w : World) (hH : HoldsN N w b vs) (hN : n * 3 ≤ N) (hl : lies vs n F U V) (hn : (n : Int) ≤ 1099511627776)
    (hm : m < n) (hv : ∀ i : Nat, i < m → ¬ midP F U d i) (hM : midP F U d m)
    (hC : ∀ (wq : World) (g : Nat), HoldsN N wq b vs → wq.heap[g]? = some (.cells #[.int .i64 (F m), .int .i64 (U m), .int .i64 (V m)] 47 (0, 0)) → b < g → Calls Try.prog 38 #[.slice (some ⟨b, 0, none⟩) n cap, .int .i64 m, .slice (some ⟨g, 0, none⟩) 1 1] wq (Inserted b n m F U V (F m) (U m) (V m) wq)) :
    Calls Try.prog 44 #[.slice (some ⟨b, 0, none⟩) n cap, .int .i64 d] w fun e w' => ∃ b2 N2 cap2 vs2, e = .returned (.slice (some ⟨b2, 0, none⟩) (n + 1) cap2) ∧ HoldsN N2 w' b2 vs2 ∧ n + 1 ≤ cap2 ∧ cap2 * 3 ≤ N2 ∧ lies vs2 (n + 1) (cutF F m d) (cutU U m d) (cutV V m) ∧ b ≤ b2 ∧ Below b w w' := by
  have HH := Lib.hid hH; have HL := Lib.hid hl; have HV := Lib.hid hv; have HM := Lib.hid hM; have HC := Lib.hid hC
  have zb0 := hH.1
  clear hH hl hv hM hC
  go_enter Try.func44, Try.ntmps44
  go_wp2
  go_loopw [0, 9] (fun l i wr => ∃ k : Nat, k ≤ m ∧ l = .slice (some ⟨b, 0, none⟩) n cap ∧ i = .int .i64 k ∧ Below w.heap.size w wr) (fun _ i _ => n - (intOf i).toNat)
  case atStart => exact ⟨0, Nat.zero_le _, rfl, rfl, by go_grown⟩
  case round =>
    obtain ⟨k, hk, rfl, rfl, hb⟩ := hrel
    have NB := Lib.hid hb
    have NH := Lib.hid (HH.out.next hb)
    have PW := Lib.hid (NH.out.pc (o := k * 3) (by omega) (HL.out k (by omega)))
    have hkd : decide ((k : Int) < (n : Int)) = true := by simp; omega
    have q0 := PW.out.1; have q1 := PW.out.2.1; have q2 := PW.out.2.2
    have zb := PW.out.lt
    clear hb
    by_cases hkm : k = m
    · subst hkm
      have e : decide (F k ≤ d ∧ d < U k) = true := decide_eq_true (by have := HM.out; exact ⟨by omega, this.2⟩)
      have e2 : decide (F k < d) = true := decide_eq_true HM.out.1
      go_wp2_with fail
      refine (has_any _ _ _ _).mono ?_
      rintro e w' ⟨rfl, hb⟩
      have MB : Hid (Below w.heap.size w w') := (NB.out.alloc NB.out.size _).trans (hb.mono (by have := NB.out.size; simp; omega))
      have MH := Lib.hid ((NH.out.alloc (.cells #[.int .i64 (F k), .int .i64 (U k), .int .i64 (V k)] 47)).next hb)
      have MP := Lib.hid ((Pc.new wr (F k) (U k) (V k) 47).next hb)
      clear hb q0 q1 q2
      have q0 := MP.out.1; have q1 := MP.out.2.1; have q2 := MP.out.2.2
      simp only [Nat.zero_add] at q1 q2
      have zb' := MP.out.lt
      rw [e]
      go_wp2_with fail
      have zw' : b < w'.heap.size := by have := MH.out.1; omega
      refine (HC.out _ w'.heap.size (MH.out.alloc _) (heap_alloc_new w' _) zw').mono ?_
      rintro e w2 ⟨b2, N2, cap2, vs2, rfl, h2, hc2, hN2, hl2, hb2, hbel⟩
      have H2 := Lib.hid h2; have L2 := Lib.hid hl2
      have B2 : Hid (Below b w w2) := (MB.out.mono (by omega)).trans (((Below.refl _ _).alloc (Nat.le_refl _) _ |>.mono (by omega)).trans hbel)
      have t1 := H2.out.cell (k * 3 + 1) (by omega)
      have f1 := H2.out.frozen (k * 3 + 1) (by omega)
      have H3 := Lib.hid (H2.out.put (k * 3 + 1) (by omega) (.int .i64 d))
      have t2 := H3.out.cell ((k + 1) * 3) (by omega)
      have f2 := H3.out.frozen ((k + 1) * 3) (by omega)
      have H4 := Lib.hid (H3.out.put ((k + 1) * 3) (by omega) (.int .i64 d))
      have zb2 := H2.out.1
      clear h2 hl2 hbel q0 q1 q2
      go_wp2_with fail
      go_ret
      exact ⟨b2, N2, cap2, _, rfl, H4.out, hc2, hN2, cut_lies L2.out, hb2, (B2.out.setCell hb2 _).setCell hb2 _⟩
    · have hkm' : k < m := by omega
      by_cases hin : F k ≤ d ∧ d < U k
      · have e : decide (F k ≤ d ∧ d < U k) = true := decide_eq_true hin
        have e2 : decide (F k < d) = false := decide_eq_false (fun g => HV.out k hkm' ⟨g, hin.2⟩)
        clear hin
        go_wp2_with fail
        refine (has_any _ _ _ _).mono ?_
        rintro e w' ⟨rfl, hb⟩
        have MB : Hid (Below w.heap.size w w') := (NB.out.alloc NB.out.size _).trans (hb.mono (by have := NB.out.size; simp; omega))
        have MP := Lib.hid ((Pc.new wr (F k) (U k) (V k) 47).next hb)
        clear hb q0 q1 q2
        have q0 := MP.out.1; have q1 := MP.out.2.1; have q2 := MP.out.2.2
        simp only [Nat.zero_add] at q1 q2
        have zb' := MP.out.lt
        rw [e]
        go_wp2
        go_roundw
        case rel => exact ⟨k + 1, by omega, rfl, by go_num, MB.out⟩
        case measure => simp [intOf]; omega
      · have e : decide (F k ≤ d ∧ d < U k) = false := decide_eq_false hin
        clear hin
        go_wp2_with fail
        refine (has_any _ _ _ _).mono ?_
        rintro e w' ⟨rfl, hb⟩
        have MB : Hid (Below w.heap.size w w') := (NB.out.alloc NB.out.size _).trans (hb.mono (by have := NB.out.size; simp; omega))
        clear hb
        rw [e]
        go_wp2
        go_roundw
        case rel => exact ⟨k + 1, by omega, rfl, by go_num, MB.out⟩
        case measure => simp [intOf]; omega

end Go.Proofs.Ytcgjhbjbfdbfaaa
