/-
  The reference's cut and join. No statement of the seat is proved here.
-/
import Derived.Test.YtcgjhbjbfdbfaaaPt
namespace Go.Proofs.Ytcgjhbjbfdbfaaa
open Go.RowKit

theorem mx (a b : Int) : (if a < b then b else a) = max a b := by omega
/-- What cut has gathered of k pieces. -/
def CutTo (B k n : Nat) (F U V : Nat → Int) (a b : Int) (wr : World) (v : Value) : Prop :=
  ∃ b2 n2 cap2 F2 U2 V2, v = .slice (some ⟨b2, 0, none⟩) n2 cap2 ∧ Row 0 wr b2 n2 cap2 F2 U2 V2 ∧ B ≤ b2 ∧ Tl n2 F2 U2 V2 ∧ n2 ≤ k ∧ (∀ d x, Has n2 F2 U2 V2 d x ↔ (a ≤ d ∧ d < b) ∧ Has k F U V d x) ∧ ∀ i, i < n2 → ∀ j, k ≤ j → j < n → U2 i ≤ F j

theorem cut_step {B k n b2 n2 : Nat} {F U V F2 U2 V2 : Nat → Int} {a b f u : Int} {w w' : World} {r : Value} (hW : Wk n F U) (hn : n2 ≤ k) (hH : ∀ d x, Has n2 F2 U2 V2 d x ↔ (a ≤ d ∧ d < b) ∧ Has k F U V d x)
    (hU : ∀ i, i < n2 → ∀ j, k ≤ j → j < n → U2 i ≤ F j) (hB : B ≤ b2) (hBw : B ≤ w.heap.size) (hf : (F k < a ∧ f = a) ∨ (a ≤ F k ∧ f = F k)) (hu : (U k ≤ b ∧ u = U k) ∨ (b < U k ∧ u = b)) (hP : Put b2 n2 F2 U2 V2 f u (V k) w r w') : CutTo B (k + 1) n F U V a b w' r := by
  obtain ⟨b5, n5, cap5, F5, U5, V5, rfl, hR, hG, hb, hT, h5, hH5, hU5⟩ := hP
  refine ⟨b5, n5, cap5, F5, U5, V5, rfl, hR, ?_, hT, by omega, fun d x => ?_, fun i hi j h1 h2 => ?_⟩
  · rcases hb with h | h
    · omega
    · omega
  · rw [hH5, hH, Has.succ]
    constructor
    · rintro (h | h)
      · exact ⟨h.1, Or.inl h.2⟩
      · exact ⟨by omega, Or.inr ⟨by omega, by omega, h.2.2⟩⟩
    · rintro ⟨h, g | g⟩
      · exact Or.inl ⟨h, g⟩
      · exact Or.inr ⟨by omega, by omega, g.2.2⟩
  · refine hU5 (F j) (fun i hi => hU i hi j (by omega) h2) (fun _ => ?_) i hi
    have := hW.lt (show k < j by omega) h2
    omega
theorem put_below {B b2 n2 : Nat} {F2 U2 V2 : Nat → Int} {f u v : Int} {w w' : World} {r : Value} (hP : Put b2 n2 F2 U2 V2 f u v w r w') (hB : B ≤ b2) (hBw : B ≤ w.heap.size) : Below B w w' := by
  obtain ⟨b5, n5, cap5, F5, U5, V5, rfl, hR, hG, hb, hT, h5, hH5, hU5⟩ := hP
  exact (Below.refl B w).grown hG hBw (fun k e => by cases e; exact hB)

set_option maxRecDepth 100000 in
set_option maxHeartbeats 4000000 in
theorem cut_loop (p : Option Addr) (n cap : Nat) (F U V : Nat → Int) (a b : Int) (w : World) (hP : PcsAt w p n F U V) (hn : (n : Int) ≤ 1500) (hW : Wk n F U) :
    Calls Try.prog 50 #[.slice p n cap, .int .i64 a, .int .i64 b] w fun e w' => ∃ v, e = .returned v ∧ CutTo w.heap.size n n F U V a b w' v ∧ Below w.heap.size w w' := by
  have HP := Lib.hid hP; have HW := Lib.hid hW
  clear hP hW
  go_enter Try.func50, Try.ntmps50
  go_wp2
  go_loopw [7, 8] (fun v i wr => ∃ k : Nat, k ≤ n ∧ i = .int .i64 k ∧ CutTo w.heap.size k n F U V a b wr v ∧ Below w.heap.size w wr) (fun _ i _ => n - (intOf i).toNat)
  case atStart => exact ⟨0, Nat.zero_le _, rfl, ⟨w.heap.size, 0, 0, F, U, V, rfl, ⟨0, _, HoldsN.newA w #[] 47, Nat.le_refl _, Nat.le_refl _, fun i hi => absurd hi (by omega), Nat.zero_le _⟩, Nat.le_refl _, Tl.nil, Nat.le_refl _, fun d x => ⟨fun h => absurd h Has.zero, fun h => absurd h.2 Has.zero⟩, fun i hi => absurd hi (by omega)⟩, by go_grown⟩
  case round =>
    obtain ⟨k, hk, rfl, ⟨b2, n2, cap2, F2, U2, V2, rfl, hR, hB2, hT, hn2, hH, hU⟩, hb⟩ := hrel
    have NB := Lib.hid hb; have NR := Lib.hid hR; have NT := Lib.hid hT; have NH := Lib.hid hH; have NU := Lib.hid hU
    have hwz := hb.size
    have hbz := hR.lt.1
    clear hR hT hH hU
    by_cases hkn : k < n
    · obtain ⟨blk, off, rfl, hpc⟩ := HP.out.get hkn
      have PW := Lib.hid (hpc.below hb hpc.lt)
      have hkd : decide ((k : Int) < (n : Int)) = true := by simp; omega
      have q0 := PW.out.1; have q1 := PW.out.2.1; have q2 := PW.out.2.2
      have zb := PW.out.lt
      have hSp := Lib.hid (HW.out.1 k hkn)
      clear hb hpc
      rcases (show (F k < a ∧ U k ≤ b) ∨ (F k < a ∧ b < U k) ∨ (a ≤ F k ∧ U k ≤ b) ∨ (a ≤ F k ∧ b < U k) by omega) with ⟨z1, z2⟩ | ⟨z1, z2⟩ | ⟨z1, z2⟩ | ⟨z1, z2⟩
      · go_wp2_with fail
        have hX : Below wr.heap.size wr (wr.alloc (.cells #[.int .i64 a, .int .i64 (U k), .int .i64 (V k)] 47)) := (Below.refl _ _).alloc (Nat.le_refl _) _
        refine (put_any b2 n2 cap2 F2 U2 V2 a (U k) (V k) _ (NR.out.next hX) (by omega) NT.out (fun h => by have := hSp.out; exact ⟨by omega, h, by omega⟩) (fun h i hi => by have := NU.out i hi k (Nat.le_refl _) hkn; omega)).mono ?_
        rintro e w5 ⟨r5, rfl, hP5⟩
        have C5 := Lib.hid (cut_step (B := w.heap.size) HW.out hn2 NH.out NU.out hB2 (Nat.le_trans hwz hX.size) (Or.inl ⟨by omega, rfl⟩) (Or.inl ⟨by omega, rfl⟩) hP5)
        have B5 := Lib.hid (NB.out.trans ((hX.mono hwz).trans (put_below hP5 hB2 (Nat.le_trans hwz hX.size))))
        clear hP5 hX q0 q1 q2
        go_wp2_with fail
        go_roundw
        case rel => exact ⟨k + 1, by omega, by go_num, C5.out, B5.out⟩
        case measure => simp [intOf]; omega
      · go_wp2_with fail
        have hX : Below wr.heap.size wr (wr.alloc (.cells #[.int .i64 a, .int .i64 b, .int .i64 (V k)] 47)) := (Below.refl _ _).alloc (Nat.le_refl _) _
        refine (put_any b2 n2 cap2 F2 U2 V2 a b (V k) _ (NR.out.next hX) (by omega) NT.out (fun h => by have := hSp.out; exact ⟨by omega, h, by omega⟩) (fun h i hi => by have := NU.out i hi k (Nat.le_refl _) hkn; omega)).mono ?_
        rintro e w5 ⟨r5, rfl, hP5⟩
        have C5 := Lib.hid (cut_step (B := w.heap.size) HW.out hn2 NH.out NU.out hB2 (Nat.le_trans hwz hX.size) (Or.inl ⟨by omega, rfl⟩) (Or.inr ⟨by omega, rfl⟩) hP5)
        have B5 := Lib.hid (NB.out.trans ((hX.mono hwz).trans (put_below hP5 hB2 (Nat.le_trans hwz hX.size))))
        clear hP5 hX q0 q1 q2
        go_wp2_with fail
        go_roundw
        case rel => exact ⟨k + 1, by omega, by go_num, C5.out, B5.out⟩
        case measure => simp [intOf]; omega
      · go_wp2_with fail
        have hX : Below wr.heap.size wr (wr.alloc (.cells #[.int .i64 (F k), .int .i64 (U k), .int .i64 (V k)] 47)) := (Below.refl _ _).alloc (Nat.le_refl _) _
        refine (put_any b2 n2 cap2 F2 U2 V2 (F k) (U k) (V k) _ (NR.out.next hX) (by omega) NT.out (fun h => by have := hSp.out; exact ⟨by omega, h, by omega⟩) (fun h i hi => by have := NU.out i hi k (Nat.le_refl _) hkn; omega)).mono ?_
        rintro e w5 ⟨r5, rfl, hP5⟩
        have C5 := Lib.hid (cut_step (B := w.heap.size) HW.out hn2 NH.out NU.out hB2 (Nat.le_trans hwz hX.size) (Or.inr ⟨by omega, rfl⟩) (Or.inl ⟨by omega, rfl⟩) hP5)
        have B5 := Lib.hid (NB.out.trans ((hX.mono hwz).trans (put_below hP5 hB2 (Nat.le_trans hwz hX.size))))
        clear hP5 hX q0 q1 q2
        go_wp2_with fail
        go_roundw
        case rel => exact ⟨k + 1, by omega, by go_num, C5.out, B5.out⟩
        case measure => simp [intOf]; omega
      · go_wp2_with fail
        have hX : Below wr.heap.size wr (wr.alloc (.cells #[.int .i64 (F k), .int .i64 b, .int .i64 (V k)] 47)) := (Below.refl _ _).alloc (Nat.le_refl _) _
        refine (put_any b2 n2 cap2 F2 U2 V2 (F k) b (V k) _ (NR.out.next hX) (by omega) NT.out (fun h => by have := hSp.out; exact ⟨by omega, h, by omega⟩) (fun h i hi => by have := NU.out i hi k (Nat.le_refl _) hkn; omega)).mono ?_
        rintro e w5 ⟨r5, rfl, hP5⟩
        have C5 := Lib.hid (cut_step (B := w.heap.size) HW.out hn2 NH.out NU.out hB2 (Nat.le_trans hwz hX.size) (Or.inr ⟨by omega, rfl⟩) (Or.inr ⟨by omega, rfl⟩) hP5)
        have B5 := Lib.hid (NB.out.trans ((hX.mono hwz).trans (put_below hP5 hB2 (Nat.le_trans hwz hX.size))))
        clear hP5 hX q0 q1 q2
        go_wp2_with fail
        go_roundw
        case rel => exact ⟨k + 1, by omega, by go_num, C5.out, B5.out⟩
        case measure => simp [intOf]; omega
    · have hkd : decide ((k : Int) < (n : Int)) = false := by simp; omega
      obtain rfl : k = n := by omega
      clear hb
      go_wp2
      go_ret
      exact ⟨_, rfl, ⟨b2, n2, cap2, F2, U2, V2, rfl, NR.out, hB2, NT.out, hn2, NH.out, NU.out⟩, NB.out⟩

/-- What join has gathered of k pieces behind a list. -/
def JoinTo (b0 n0 : Nat) (F0 U0 V0 : Nat → Int) (k m : Nat) (G H I : Nat → Int) (w wr : World) (v : Value) : Prop :=
  ∃ b2 n2 cap2 F2 U2 V2, v = .slice (some ⟨b2, 0, none⟩) n2 cap2 ∧ Row 0 wr b2 n2 cap2 F2 U2 V2 ∧ w.grownBy wr (some b0) ∧ (b2 = b0 ∨ w.heap.size ≤ b2) ∧ Tl n2 F2 U2 V2 ∧ n2 ≤ n0 + k ∧ (∀ d x, Has n2 F2 U2 V2 d x ↔ Has n0 F0 U0 V0 d x ∨ Has k G H I d x) ∧ ∀ i, i < n2 → ∀ j, k ≤ j → j < m → U2 i ≤ G j
theorem join_step {b0 n0 k m b2 n2 : Nat} {F0 U0 V0 F2 U2 V2 G H I : Nat → Int} {w wr w' : World} {r : Value} (hW : Wk m G H) (hn : n2 ≤ n0 + k) (hH : ∀ d x, Has n2 F2 U2 V2 d x ↔ Has n0 F0 U0 V0 d x ∨ Has k G H I d x) (hU : ∀ i, i < n2 → ∀ j, k ≤ j → j < m → U2 i ≤ G j)
    (hg : w.grownBy wr (some b0)) (hb : b2 = b0 ∨ w.heap.size ≤ b2) (hP : Put b2 n2 F2 U2 V2 (G k) (H k) (I k) wr r w') : JoinTo b0 n0 F0 U0 V0 (k + 1) m G H I w w' r := by
  obtain ⟨b5, n5, cap5, F5, U5, V5, rfl, hR, hG, hb5, hT, h5, hH5, hU5⟩ := hP
  refine ⟨b5, n5, cap5, F5, U5, V5, rfl, hR, grown_trans hg hG hb, ?_, hT, by omega, fun d x => by rw [hH5, hH, Has.succ, or_assoc], fun i hi j h1 h2 => ?_⟩
  · have := hg.size
    rcases hb5 with h | h
    · subst h; exact hb
    · exact Or.inr (by omega)
  · refine hU5 (G j) (fun i hi => hU i hi j (by omega) h2) (fun _ => ?_) i hi
    have := hW.lt (show k < j by omega) h2
    omega

set_option maxRecDepth 100000 in
set_option maxHeartbeats 4000000 in
theorem refjoin_loop (b0 n0 cap0 : Nat) (F0 U0 V0 : Nat → Int) (q : Option Addr) (m capq : Nat) (G H I : Nat → Int) (w : World) (hR : Row 0 w b0 n0 cap0 F0 U0 V0) (hT : Tl n0 F0 U0 V0) (hQ : PcsAt w q m G H I) (hW : Wk m G H) (hne : ∀ c o, q = some ⟨c, o, none⟩ → 0 < m → c ≠ b0)
    (hn : (n0 : Int) + (m : Int) ≤ 2000) (hU : ∀ i, i < n0 → ∀ j, j < m → U0 i ≤ G j) :
    Calls Try.prog 49 #[.slice (some ⟨b0, 0, none⟩) n0 cap0, .slice q m capq] w fun e w' => ∃ v, e = .returned v ∧ JoinTo b0 n0 F0 U0 V0 m m G H I w w' v := by
  have HQ := Lib.hid hQ; have HW := Lib.hid hW; have HR := Lib.hid hR; have HT := Lib.hid hT; have HU := Lib.hid hU; have HNE := Lib.hid hne
  clear hQ hW hR hT hU hne
  go_enter Try.func49, Try.ntmps49
  go_wp2
  go_loopw [0, 5] (fun v i wr => ∃ k : Nat, k ≤ m ∧ i = .int .i64 k ∧ JoinTo b0 n0 F0 U0 V0 k m G H I w wr v) (fun _ i _ => m - (intOf i).toNat)
  case atStart => exact ⟨0, Nat.zero_le _, rfl, b0, n0, cap0, F0, U0, V0, rfl, HR.out, grown_below (Below.refl _ _), Or.inl rfl, HT.out, by omega, fun d x => ⟨Or.inl, fun h => h.elim id (fun h => absurd h Has.zero)⟩, fun i hi j _ hj => HU.out i hi j hj⟩
  case round =>
    obtain ⟨k, hk, rfl, b2, n2, cap2, F2, U2, V2, rfl, hR, hg, hb2, hT, hn2, hH, hU⟩ := hrel
    have NR := Lib.hid hR; have NG := Lib.hid hg; have NT := Lib.hid hT; have NH := Lib.hid hH; have NU := Lib.hid hU; have NB := Lib.hid hb2
    clear hR hg hT hH hU hb2
    by_cases hkn : k < m
    · obtain ⟨blk, off, rfl, hpc⟩ := HQ.out.get hkn
      have hne : some blk ≠ some b0 := fun e => HNE.out blk off rfl (by omega) (Option.some.inj e)
      have PW : Hid (Pc wr blk (off + k * 3) (G k) (H k) (I k)) := ⟨NG.out.cell hpc.1 hne, NG.out.cell hpc.2.1 hne, NG.out.cell hpc.2.2 hne⟩
      have hkd : decide ((k : Int) < (m : Int)) = true := by simp; omega
      have q0 := PW.out.1; have q1 := PW.out.2.1; have q2 := PW.out.2.2
      have zb := PW.out.lt
      clear hpc hne
      go_wp2_with fail
      refine (put_any b2 n2 cap2 F2 U2 V2 (G k) (H k) (I k) _ NR.out (by omega) NT.out (fun _ => HW.out.1 k hkn) (fun _ i hi => NU.out i hi k (Nat.le_refl _) hkn)).mono ?_
      rintro e w5 ⟨r5, rfl, hP5⟩
      have C5 := Lib.hid (join_step HW.out hn2 NH.out NU.out NG.out NB.out hP5)
      clear hP5 q0 q1 q2
      go_wp2_with fail
      go_roundw
      case rel => exact ⟨k + 1, by omega, by go_num, C5.out⟩
      case measure => simp [intOf]; omega
    · have hkd : decide ((k : Int) < (m : Int)) = false := by simp; omega
      obtain rfl : k = m := by omega
      go_wp2
      go_ret
      exact ⟨_, rfl, b2, n2, cap2, F2, U2, V2, rfl, NR.out, NG.out, NB.out, NT.out, hn2, NH.out, NU.out⟩

end Go.Proofs.Ytcgjhbjbfdbfaaa
