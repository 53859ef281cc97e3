/-
  What join answers: pieces that continue one another are one. No statement of the seat is proved here.
-/
import Derived.Test.YtcgjhbjbfdbfaaaWi
import Derived.Deep.CutRange
namespace Go.Proofs.Ytcgjhbjbfdbfaaa
open Go.RowKit

theorem Has.zero {F U V : Nat → Int} {d x : Int} : ¬ Has 0 F U V d x := fun ⟨i, h, _⟩ => absurd h (by omega)
theorem Has.succ {k : Nat} {F U V : Nat → Int} {d x : Int} : Has (k + 1) F U V d x ↔ Has k F U V d x ∨ (F k ≤ d ∧ d < U k ∧ V k = x) := by
  constructor
  · rintro ⟨i, h, g⟩
    rcases (show i < k ∨ i = k by omega) with c | c
    · exact Or.inl ⟨i, c, g⟩
    · subst c; exact Or.inr g
  · rintro (⟨i, h, g⟩ | g)
    · exact ⟨i, by omega, g⟩
    · exact ⟨k, by omega, g⟩
theorem Tl.nil {F U V : Nat → Int} : Tl 0 F U V := ⟨⟨fun i hi => absurd hi (by omega), fun i hi => absurd hi (by omega)⟩, fun i hi => absurd hi (by omega)⟩
/-- The last piece made longer. -/
theorem long_lies {n : Nat} {F U V : Nat → Int} {vs : Nat → Value} {u : Int} (h : lies vs n F U V) (hn : 0 < n) : lies (fun q => if q = (n - 1) * 3 + 1 then .int .i64 u else vs q) n F (upd U (n - 1) u) V := by
  intro i hi
  have g := h i hi
  simp only []
  rw [if_neg (show ¬ i * 3 = (n - 1) * 3 + 1 by omega), if_neg (show ¬ i * 3 + 2 = (n - 1) * 3 + 1 by omega)]
  rcases (show i = n - 1 ∨ i ≠ n - 1 by omega) with k | k
  · rw [if_pos (by rw [k]), k, upd_same]
    rw [k] at g
    exact ⟨g.1, rfl, g.2.2⟩
  · rw [if_neg (by omega), upd_ne k]
    exact g

/-- What lies behind k pieces. -/
def Joined (B : Nat) (n k : Nat) (F U V : Nat → Int) (wr : World) (v : Value) : Prop :=
  ∃ p2 n2 cap2 F2 U2 V2, v = .slice p2 n2 cap2 ∧ LsAt B wr p2 n2 cap2 F2 U2 V2 ∧ Tl n2 F2 U2 V2 ∧ n2 ≤ k ∧ (∀ d x, Has n2 F2 U2 V2 d x ↔ Has k F U V d x) ∧ ∀ i, i < n2 → ∀ j, k ≤ j → j < n → U2 i ≤ F j

section
variable {B n k n2 cap2 : Nat} {F U V F2 U2 V2 : Nat → Int} {p2 : Option Addr} {w : World}
theorem joined_snoc (hW : Wk n F U) (hk : k < n) (hT : Tl n2 F2 U2 V2) (hn : n2 ≤ k) (hH : ∀ d x, Has n2 F2 U2 V2 d x ↔ Has k F U V d x) (hU : ∀ i, i < n2 → ∀ j, k ≤ j → j < n → U2 i ≤ F j)
    (hc : ¬ (0 < n2 ∧ U2 (n2 - 1) = F k ∧ V2 (n2 - 1) = V k)) (hL : LsAt B w p2 (n2 + 1) cap2 (upd F2 n2 (F k)) (upd U2 n2 (U k)) (upd V2 n2 (V k))) : Joined B n (k + 1) F U V w (.slice p2 (n2 + 1) cap2) := by
  have h := hT.snoc (hW.1 k hk) (fun i hi => hU i hi k (Nat.le_refl _) hk) hc
  refine ⟨p2, n2 + 1, cap2, _, _, _, rfl, hL, h.1, by omega, fun d x => by rw [h.2.1, hH, Has.succ], fun i hi j h1 h2 => ?_⟩
  have := h.2.2 i hi
  have := hW.lt (show k < j by omega) h2
  omega
theorem joined_grow (hW : Wk n F U) (hk : k < n) (hT : Tl n2 F2 U2 V2) (hn : n2 ≤ k) (hH : ∀ d x, Has n2 F2 U2 V2 d x ↔ Has k F U V d x)
    (h0 : 0 < n2) (hU : U2 (n2 - 1) = F k) (hV : V2 (n2 - 1) = V k) (hL : LsAt B w p2 n2 cap2 F2 (upd U2 (n2 - 1) (U k)) V2) : Joined B n (k + 1) F U V w (.slice p2 n2 cap2) := by
  have h := hT.grow (hW.1 k hk) h0 hU hV
  refine ⟨p2, n2, cap2, _, _, _, rfl, hL, h.1, by omega, fun d x => by rw [h.2.1, hH, Has.succ], fun i hi j h1 h2 => ?_⟩
  have := h.2.2 i hi
  have := hW.lt (show k < j by omega) h2
  omega
end
theorem below_two (wr : World) (c c' : Obj) (nq : Nat) : Below wr.heap.size wr (((wr.alloc c).drewN nq).alloc c') :=
  (below_drewN ((Below.refl _ _).alloc (Nat.le_refl _) _) nq).alloc (by show wr.heap.size ≤ (wr.alloc c).heap.size; simp) _
theorem pc_two (wr : World) (c : Obj) (nq : Nat) (f u v : Int) : Pc (((wr.alloc c).drewN nq).alloc (.cells #[.int .i64 f, .int .i64 u, .int .i64 v] 47)) (wr.heap.size + 1) 0 f u v := by
  have e : ((wr.alloc c).drewN nq).heap.size = wr.heap.size + 1 := by show (wr.alloc c).heap.size = _; simp
  rw [← e]
  exact Pc.new _ f u v 47

set_option maxRecDepth 100000 in
set_option maxHeartbeats 4000000 in
theorem join_loop (p : Option Addr) (n cap : Nat) (F U V : Nat → Int) (w : World) (hP : PcsAt w p n F U V) (hn : (n : Int) ≤ 2000) (hW : Wk n F U) :
    Calls Try.prog 37 #[.slice p n cap] w fun e w' => ∃ v, e = .returned v ∧ Joined w.heap.size n n F U V w' v ∧ Below w.heap.size w w' := by
  have HP := Lib.hid hP; have HW := Lib.hid hW
  clear hP hW
  go_enter Try.func37, Try.ntmps37
  go_wp2
  go_loopw [3, 9] (fun v i wr => ∃ k : Nat, k ≤ n ∧ i = .int .i64 k ∧ Joined w.heap.size n k F U V wr v ∧ Below w.heap.size w wr) (fun _ i _ => n - (intOf i).toNat)
  case atStart => exact ⟨0, Nat.zero_le _, rfl, ⟨none, 0, 0, F, U, V, rfl, Or.inl ⟨rfl, rfl, rfl⟩, Tl.nil, Nat.le_refl _, fun d x => Iff.rfl, fun i hi => absurd hi (by omega)⟩, by go_grown⟩
  case round =>
    obtain ⟨k, hk, rfl, ⟨p2, n2, cap2, F2, U2, V2, rfl, hL, hT, hn2, hH, hU⟩, hb⟩ := hrel
    have NB := Lib.hid hb; have NL := Lib.hid hL; have NT := Lib.hid hT; have NH := Lib.hid hH; have NU := Lib.hid hU
    have hwz := hb.size
    clear hL hT hH hU
    by_cases hkn : k < n
    · obtain ⟨blk, off, rfl, hpc⟩ := HP.out.get hkn
      have PW := Lib.hid (hpc.below hb hpc.lt)
      have hkd : decide ((k : Int) < (n : Int)) = true := by simp; omega
      have q0 := PW.out.1; have q1 := PW.out.2.1; have q2 := PW.out.2.2
      have zb := PW.out.lt
      have hSp := Lib.hid (HW.out.1 k hkn)
      clear hb hpc
      rcases Nat.eq_zero_or_pos n2 with h0 | h0
      · subst h0
        go_wp2_with fail
        go_quiet (fail)
        have hL9 := Lib.hid (NL.out.next (below_two wr (.cells #[.int .i64 (F k), .int .i64 (U k), .int .i64 (V k)] 47) (.cells #[.int .i64 (F k), .int .i64 (U k), .int .i64 (V k)] 47) nq))
        have hP9 := Lib.hid (pc_two wr (.cells #[.int .i64 (F k), .int .i64 (U k), .int .i64 (V k)] 47) nq (F k) (U k) (V k))
        have B9 := Lib.hid (below_two wr (.cells #[.int .i64 (F k), .int .i64 (U k), .int .i64 (V k)] 47) (.cells #[.int .i64 (F k), .int .i64 (U k), .int .i64 (V k)] 47) nq)
        have hz9 : w.heap.size ≤ (((wr.alloc (.cells #[.int .i64 (F k), .int .i64 (U k), .int .i64 (V k)] 47)).drewN nq).alloc (.cells #[.int .i64 (F k), .int .i64 (U k), .int .i64 (V k)] 47)).heap.size := Nat.le_trans hwz B9.out.size
        clear q0 q1 q2
        go_wp2_with (at_builtin; refine wpList_append_piece rfl (.tmp 34) (.tmp 36) rfl w.heap.size 0 cap2 _ p2 F2 U2 V2 rfl hL9.out (by omega) (wr.heap.size + 1) 1 (F k) (U k) (V k) rfl hP9.out hz9 ?_; intro p3 cap3 w3 hL3 hB3)
        go_roundw
        case rel => exact ⟨k + 1, by omega, by go_num, joined_snoc HW.out hkn NT.out hn2 NH.out NU.out (by omega) hL3, NB.out.trans ((B9.out.mono hwz).trans hB3)⟩
        case measure => simp [intOf]; omega
      · rcases NL.out with ⟨_, hx, _⟩ | ⟨b2, N2, vs2, rfl, hH2, hc1, hc2, hl2, hB2⟩
        · omega
        have PL := Lib.hid (hH2.pc (o := (n2 - 1) * 3) (by omega) (hl2 (n2 - 1) (by omega)))
        have p0 := PL.out.1; have p1 := PL.out.2.1; have p2 := PL.out.2.2
        have zp := PL.out.lt
        have H2 := Lib.hid hH2; have L2 := Lib.hid hl2
        clear hH2 hl2
        have hk1 : (0 : Int) ≤ (n2 : Int) - 1 := by omega
        have hk2 : (n2 : Int) - 1 < (n2 : Int) := by omega
        have hk3 : ((n2 : Int) - 1).toNat = n2 - 1 := by omega
        have hk4 : IntKind.i64.wrap ((n2 : Int) - 1) = (n2 : Int) - 1 := IntWalk.i64_in _ (by omega)
        have hk5 : (1 : Int) ≤ (n2 : Int) := by omega
        by_cases hct : U2 (n2 - 1) = F k ∧ V2 (n2 - 1) = V k
        · have HCT := Lib.hid hct
          have CC : Hid (∀ w, Calls Try.prog 33 #[.agg #[.int .i64 (F2 (n2 - 1)), .int .i64 (U2 (n2 - 1)), .int .i64 (V2 (n2 - 1))], .agg #[.int .i64 (F k), .int .i64 (U k), .int .i64 (V k)]] w fun e w' => e = .returned (.bool true) ∧ Below w.heap.size w w') := fun w => (continues_any _ _ _ _ _ _ w).mono (by
            rintro e w' ⟨rfl, h⟩
            exact ⟨by rw [decide_eq_true hct], h⟩)
          clear hct
          go_wp2_with fail
          have X0 := Lib.hid (Pc.new wr (F k) (U k) (V k) 47)
          have Y0 := Lib.hid (PL.out.alloc (.cells #[.int .i64 (F k), .int .i64 (U k), .int .i64 (V k)] 47))
          have H0 := Lib.hid (H2.out.alloc (.cells #[.int .i64 (F k), .int .i64 (U k), .int .i64 (V k)] 47))
          have B0 : Hid (Below wr.heap.size wr (wr.alloc (.cells #[.int .i64 (F k), .int .i64 (U k), .int .i64 (V k)] 47))) := (Below.refl _ _).alloc (Nat.le_refl _) _
          go_region_held3 (fun v => (v.cell? ⟨wr.heap.size, 0, none⟩ = some (.int .i64 (F k)) ∧ v.cell? ⟨wr.heap.size, 1, none⟩ = some (.int .i64 (U k)) ∧ v.cell? ⟨wr.heap.size, 2, none⟩ = some (.int .i64 (V k))) ∧
                v.cell? ⟨b2, (n2 - 1) * 3, none⟩ = some (.int .i64 (F2 (n2 - 1))) ∧ v.cell? ⟨b2, (n2 - 1) * 3 + 1, none⟩ = some (.int .i64 (U2 (n2 - 1))) ∧ v.cell? ⟨b2, (n2 - 1) * 3 + 2, none⟩ = some (.int .i64 (V2 (n2 - 1))))
              (first
                | exact ⟨X0.out, Y0.out⟩
                | assumption)
              ((go_at_call 33; refine (CC.out _).mono ?_; rintro e w5 ⟨rfl, hb5⟩; have hs5 : (w5.cell? ⟨wr.heap.size, 0, none⟩ = some (.int .i64 (F k)) ∧ w5.cell? ⟨wr.heap.size, 1, none⟩ = some (.int .i64 (U k)) ∧ w5.cell? ⟨wr.heap.size, 2, none⟩ = some (.int .i64 (V k))) ∧ w5.cell? ⟨b2, (n2 - 1) * 3, none⟩ = some (.int .i64 (F2 (n2 - 1))) ∧ w5.cell? ⟨b2, (n2 - 1) * 3 + 1, none⟩ = some (.int .i64 (U2 (n2 - 1))) ∧ w5.cell? ⟨b2, (n2 - 1) * 3 + 2, none⟩ = some (.int .i64 (V2 (n2 - 1))) := ⟨X0.out.next ((below_drewN (Below.refl _ _) 1).trans hb5), Y0.out.next ((below_drewN (Below.refl _ _) 1).trans hb5)⟩))
          have Y5 := Lib.hid (PL.out.next (B0.out.trans (((below_drewN (Below.refl _ _) 1).trans hb5).mono B0.out.size)))
          have H5 := Lib.hid (H0.out.next ((below_drewN (Below.refl _ _) 1).trans hb5))
          have B5 : Hid (Below w.heap.size w w5) := NB.out.trans ((B0.out.trans (((below_drewN (Below.refl _ _) 1).trans hb5).mono B0.out.size)).mono hwz)
          have X5 := Lib.hid (X0.out.next ((below_drewN (Below.refl _ _) 1).trans hb5))
          have x0 := X5.out.1; have x1 := X5.out.2.1; have x2 := X5.out.2.2
          simp only [Nat.zero_add] at x1 x2
          have t1 := H5.out.cell ((n2 - 1) * 3 + 1) (by omega)
          have f1 := H5.out.frozen ((n2 - 1) * 3 + 1) (by omega)
          have L9 : Hid (LsAt w.heap.size (w5.setCell ⟨b2, (n2 - 1) * 3 + 1, none⟩ (.int .i64 (U k))) (some ⟨b2, 0, none⟩) n2 cap2 F2 (upd U2 (n2 - 1) (U k)) V2) := Or.inr ⟨b2, N2, _, rfl, H5.out.put _ (by omega) _, hc1, hc2, long_lies L2.out h0, hB2⟩
          clear hb5 hs5 q0 q1 q2 p0 p1 p2
          go_wp2_with fail
          go_roundw
          case rel => exact ⟨k + 1, by omega, by go_num, joined_grow HW.out hkn NT.out hn2 NH.out h0 HCT.out.1 HCT.out.2 L9.out, B5.out.setCell hB2 _⟩
          case measure => simp [intOf]; omega
        · have HCT := Lib.hid hct
          have CC : Hid (∀ w, Calls Try.prog 33 #[.agg #[.int .i64 (F2 (n2 - 1)), .int .i64 (U2 (n2 - 1)), .int .i64 (V2 (n2 - 1))], .agg #[.int .i64 (F k), .int .i64 (U k), .int .i64 (V k)]] w fun e w' => e = .returned (.bool false) ∧ Below w.heap.size w w') := fun w => (continues_any _ _ _ _ _ _ w).mono (by
            rintro e w' ⟨rfl, h⟩
            exact ⟨by rw [decide_eq_false hct], h⟩)
          clear hct
          go_wp2_with fail
          have X0 := Lib.hid (Pc.new wr (F k) (U k) (V k) 47)
          have Y0 := Lib.hid (PL.out.alloc (.cells #[.int .i64 (F k), .int .i64 (U k), .int .i64 (V k)] 47))
          have H0 := Lib.hid (H2.out.alloc (.cells #[.int .i64 (F k), .int .i64 (U k), .int .i64 (V k)] 47))
          have B0 : Hid (Below wr.heap.size wr (wr.alloc (.cells #[.int .i64 (F k), .int .i64 (U k), .int .i64 (V k)] 47))) := (Below.refl _ _).alloc (Nat.le_refl _) _
          go_region_held3 (fun v => (v.cell? ⟨wr.heap.size, 0, none⟩ = some (.int .i64 (F k)) ∧ v.cell? ⟨wr.heap.size, 1, none⟩ = some (.int .i64 (U k)) ∧ v.cell? ⟨wr.heap.size, 2, none⟩ = some (.int .i64 (V k))) ∧
                v.cell? ⟨b2, (n2 - 1) * 3, none⟩ = some (.int .i64 (F2 (n2 - 1))) ∧ v.cell? ⟨b2, (n2 - 1) * 3 + 1, none⟩ = some (.int .i64 (U2 (n2 - 1))) ∧ v.cell? ⟨b2, (n2 - 1) * 3 + 2, none⟩ = some (.int .i64 (V2 (n2 - 1))))
              (first
                | exact ⟨X0.out, Y0.out⟩
                | assumption)
              ((go_at_call 33; refine (CC.out _).mono ?_; rintro e w5 ⟨rfl, hb5⟩; have hs5 : (w5.cell? ⟨wr.heap.size, 0, none⟩ = some (.int .i64 (F k)) ∧ w5.cell? ⟨wr.heap.size, 1, none⟩ = some (.int .i64 (U k)) ∧ w5.cell? ⟨wr.heap.size, 2, none⟩ = some (.int .i64 (V k))) ∧ w5.cell? ⟨b2, (n2 - 1) * 3, none⟩ = some (.int .i64 (F2 (n2 - 1))) ∧ w5.cell? ⟨b2, (n2 - 1) * 3 + 1, none⟩ = some (.int .i64 (U2 (n2 - 1))) ∧ w5.cell? ⟨b2, (n2 - 1) * 3 + 2, none⟩ = some (.int .i64 (V2 (n2 - 1))) := ⟨X0.out.next ((below_drewN (Below.refl _ _) 1).trans hb5), Y0.out.next ((below_drewN (Below.refl _ _) 1).trans hb5)⟩))
          have Y5 := Lib.hid (PL.out.next (B0.out.trans (((below_drewN (Below.refl _ _) 1).trans hb5).mono B0.out.size)))
          have H5 := Lib.hid (H0.out.next ((below_drewN (Below.refl _ _) 1).trans hb5))
          have B5 : Hid (Below w.heap.size w w5) := NB.out.trans ((B0.out.trans (((below_drewN (Below.refl _ _) 1).trans hb5).mono B0.out.size)).mono hwz)
          have X5 := Lib.hid (X0.out.next ((below_drewN (Below.refl _ _) 1).trans hb5))
          have x0 := X5.out.1; have x1 := X5.out.2.1; have x2 := X5.out.2.2
          simp only [Nat.zero_add] at x1 x2
          have hL9 : Hid (LsAt w.heap.size (w5.alloc (.cells #[.int .i64 (F k), .int .i64 (U k), .int .i64 (V k)] 47)) (some ⟨b2, 0, none⟩) n2 cap2 F2 U2 V2) := Or.inr ⟨b2, N2, _, rfl, H5.out.alloc _, hc1, hc2, L2.out, hB2⟩
          have hP9 := Lib.hid (Pc.new w5 (F k) (U k) (V k) 47)
          have B9 : Hid (Below w.heap.size w (w5.alloc (.cells #[.int .i64 (F k), .int .i64 (U k), .int .i64 (V k)] 47))) := B5.out.alloc B5.out.size _
          have hz9 := B9.out.size
          clear hb5 hs5 q0 q1 q2 p0 p1 p2
          go_wp2_with (at_builtin; refine wpList_append_piece rfl (.tmp 34) (.tmp 36) rfl w.heap.size n2 cap2 _ (some ⟨b2, 0, none⟩) F2 U2 V2 rfl hL9.out (by omega) w5.heap.size 1 (F k) (U k) (V k) rfl hP9.out hz9 ?_; intro p3 cap3 w3 hL3 hB3)
          go_roundw
          case rel => exact ⟨k + 1, by omega, by go_num, joined_snoc HW.out hkn NT.out hn2 NH.out NU.out (fun g => HCT.out g.2) hL3, B9.out.trans hB3⟩
          case measure => simp [intOf]; omega
    · have hkd : decide ((k : Int) < (n : Int)) = false := by simp; omega
      obtain rfl : k = n := by omega
      clear hb
      go_wp2
      go_ret
      exact ⟨_, rfl, ⟨p2, n2, cap2, F2, U2, V2, rfl, NL.out, NT.out, hn2, NH.out, NU.out⟩, NB.out⟩

end Go.Proofs.Ytcgjhbjbfdbfaaa
