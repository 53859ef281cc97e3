/-
  The reference's Walk, versions, Follow. No statement of the seat is proved here.
-/
import Derived.Test.YtbjbioiggjhknaaGreatDoorRck
import Derived.Test.YtbjbioiggjhknaaGreatDoorFo
namespace Go.Proofs.YtbjbioiggjhknaaGreatDoor
open Go Go.RowKit


set_option maxRecDepth 100000 in
set_option maxHeartbeats 8000000 in
theorem WalkR_any (p : Option Addr) (n cap a b : Nat) (l : List Pln) (s : ByteArray) (w : World) (hE : Env w) (hL : PlnsAt w p l) (hl : l.length = n) (hab : a ≤ b) (hbn : b < n) (hn : n ≤ 100) (hF : ∀ y ∈ l, Sml y) (hs : s.size ≤ 1000000000000) :
    Calls Tryz.prog 36 #[.slice p n cap, .int .i64 a, .int .i64 b, .string s] w fun e w' => e = .returned (.string (walkF ((l.take (b + 1)).drop a) s)) ∧ Below w.heap.size w w' := by
  have L0 := Lib.hid hL; have E0 := Lib.hid hE; have HL := Lib.hid hl; have HF := Lib.hid hF
  obtain ⟨R, hR⟩ : ∃ R, R = walkF ((l.take (b + 1)).drop a) s := ⟨_, rfl⟩
  have HR : Hid (walkF ((l.take (b + 1)).drop a) s = R) := hR.symm
  rw [← hR]
  clear hL hE hl hF hR
  go_enter Tryz.func36, Tryz.ntmps36
  go_wp2_with fail
  go_loopw [3, 9] (fun c i wr => ∃ (t : ByteArray) (k : Nat), a ≤ k ∧ k ≤ b ∧ c = .string t ∧ i = .int .i64 k ∧ walkF ((l.take (b + 1)).drop k) t = R ∧ t.size ≤ 1000000000000 ∧ Below w.heap.size w wr) (fun _ i _ => n - (intOf i).toNat)
  case atStart => exact ⟨s, a, Nat.le_refl _, hab, rfl, rfl, HR.out, hs, Below.refl _ _⟩
  case round =>
    obtain ⟨t, k, hak, hk, rfl, rfl, hr, hz, hb⟩ := hrel
    have NB := Lib.hid hb
    have HR1 := Lib.hid hr
    by_cases hkn : k < b
    · obtain ⟨x, hx⟩ : ∃ x, l[k]? = some x := ⟨_, List.getElem?_eq_getElem (by rw [HL.out]; omega)⟩
      obtain ⟨y, hy⟩ : ∃ y, l[k + 1]? = some y := ⟨_, List.getElem?_eq_getElem (by rw [HL.out]; omega)⟩
      obtain ⟨blk, off, rfl, hpx, hkx⟩ := L0.out.get hx
      obtain ⟨blk2, off2, he, hpy, hky⟩ := L0.out.get hy
      obtain ⟨rfl, rfl⟩ : blk = blk2 ∧ off = off2 := by simpa using he
      have PX := Lib.hid (hpx.next hb); have PY := Lib.hid (hpy.next hb)
      have FX := HF.out x (List.mem_of_getElem? hx); have FY := HF.out y (List.mem_of_getElem? hy)
      have hx' : (l.take (b + 1))[k]? = some x := by rw [List.getElem?_take, if_pos (by omega)]; exact hx
      have hy' : (l.take (b + 1))[k + 1]? = some y := by rw [List.getElem?_take, if_pos (by omega)]; exact hy
      have C1 := Lib.hid (fun w1 (h1 : Below w.heap.size w w1) => NextR_any x y t w1 (E0.out.below h1) (hkx.next h1) (hky.next h1) FX.1 FY.1 FY.2.1 hz)
      have HR2 : Hid (walkF ((l.take (b + 1)).drop (k + 1)) ((nxt x y t).getD emp) = R) := by rw [← walkF_drop hx' hy']; exact HR1.out
      have hz2 := nxt_size (o := x) (s := t) FY.2.2.2 hz
      have hkd : decide ((k : Int) < (b : Int)) = true := by simp; omega
      have hkz : (k : Int) < (n : Int) := by omega
      have hk0 : k < n := by omega
      have hj1 : (0 : Int) ≤ (k : Int) + 1 := by omega
      have hj2 : (k : Int) + 1 < (n : Int) := by omega
      have hj3 : ((k : Int) + 1).toNat = k + 1 := by omega
      have hj4 : IntKind.i64.wrap ((k : Int) + 1) = (k : Int) + 1 := IntWalk.i64_in _ (by omega)
      have x0 := PX.out.1; have x1 := PX.out.2.1; have x2 := PX.out.2.2.1; have x3 := PX.out.2.2.2.1; have x4 := PX.out.2.2.2.2
      have y0 := PY.out.1; have y1 := PY.out.2.1; have y2 := PY.out.2.2.1; have y3 := PY.out.2.2.2.1; have y4 := PY.out.2.2.2.2
      have zb := PX.out.lt
      have HS : Hid ((wr.cell? ⟨blk, off + k * 5, none⟩ = some (.int .i64 x.v) ∧ wr.cell? ⟨blk, off + k * 5 + 1, none⟩ = some (.int .i64 x.f) ∧ wr.cell? ⟨blk, off + k * 5 + 2, none⟩ = some (.int .i64 x.u) ∧ wr.cell? ⟨blk, off + k * 5 + 3, none⟩ = some (.slice x.cp x.cs.length x.cc) ∧ wr.cell? ⟨blk, off + k * 5 + 4, none⟩ = some (.slice x.mp x.ms.length x.mc)) ∧ (wr.cell? ⟨blk, off + (k + 1) * 5, none⟩ = some (.int .i64 y.v) ∧ wr.cell? ⟨blk, off + (k + 1) * 5 + 1, none⟩ = some (.int .i64 y.f) ∧ wr.cell? ⟨blk, off + (k + 1) * 5 + 2, none⟩ = some (.int .i64 y.u) ∧ wr.cell? ⟨blk, off + (k + 1) * 5 + 3, none⟩ = some (.slice y.cp y.cs.length y.cc) ∧ wr.cell? ⟨blk, off + (k + 1) * 5 + 4, none⟩ = some (.slice y.mp y.ms.length y.mc))) := ⟨PX.out, PY.out⟩
      unfold Pln.val at C1
      obtain ⟨N, hN⟩ : ∃ N, N = nxt x y t := ⟨_, rfl⟩
      rw [← hN] at C1 HR2 hz2
      obtain ⟨q, bq, hq1, hq2⟩ : ∃ q bq, optV N = .tuple #[.string q, .bool bq] ∧ N.getD emp = q := by
        cases N with
        | none => exact ⟨_, _, rfl, rfl⟩
        | some r => exact ⟨_, _, rfl, rfl⟩
      rw [hq1] at C1
      rw [hq2] at HR2 hz2
      clear hb hx' hy' hpx hkx hx hpy hky hy he hr FX FY hN hq1 hq2
      go_wp2_with fail
      go_region_held3 (fun v => (v.cell? ⟨blk, off + k * 5, none⟩ = some (.int .i64 x.v) ∧ v.cell? ⟨blk, off + k * 5 + 1, none⟩ = some (.int .i64 x.f) ∧ v.cell? ⟨blk, off + k * 5 + 2, none⟩ = some (.int .i64 x.u) ∧ v.cell? ⟨blk, off + k * 5 + 3, none⟩ = some (.slice x.cp x.cs.length x.cc) ∧ v.cell? ⟨blk, off + k * 5 + 4, none⟩ = some (.slice x.mp x.ms.length x.mc)) ∧ (v.cell? ⟨blk, off + (k + 1) * 5, none⟩ = some (.int .i64 y.v) ∧ v.cell? ⟨blk, off + (k + 1) * 5 + 1, none⟩ = some (.int .i64 y.f) ∧ v.cell? ⟨blk, off + (k + 1) * 5 + 2, none⟩ = some (.int .i64 y.u) ∧ v.cell? ⟨blk, off + (k + 1) * 5 + 3, none⟩ = some (.slice y.cp y.cs.length y.cc) ∧ v.cell? ⟨blk, off + (k + 1) * 5 + 4, none⟩ = some (.slice y.mp y.ms.length y.mc))) (first | exact HS.out | assumption)
        ((first
          | (go_at_call 56; refine (C1.out _ (below_drewN NB.out 1)).mono ?_; rintro e w2 ⟨rfl, hb2⟩; have B2 : Hid (Below w.heap.size w w2) := (below_drewN NB.out 1).trans (hb2.mono NB.out.size); have hs2 : (w2.cell? ⟨blk, off + k * 5, none⟩ = some (.int .i64 x.v) ∧ w2.cell? ⟨blk, off + k * 5 + 1, none⟩ = some (.int .i64 x.f) ∧ w2.cell? ⟨blk, off + k * 5 + 2, none⟩ = some (.int .i64 x.u) ∧ w2.cell? ⟨blk, off + k * 5 + 3, none⟩ = some (.slice x.cp x.cs.length x.cc) ∧ w2.cell? ⟨blk, off + k * 5 + 4, none⟩ = some (.slice x.mp x.ms.length x.mc)) ∧ (w2.cell? ⟨blk, off + (k + 1) * 5, none⟩ = some (.int .i64 y.v) ∧ w2.cell? ⟨blk, off + (k + 1) * 5 + 1, none⟩ = some (.int .i64 y.f) ∧ w2.cell? ⟨blk, off + (k + 1) * 5 + 2, none⟩ = some (.int .i64 y.u) ∧ w2.cell? ⟨blk, off + (k + 1) * 5 + 3, none⟩ = some (.slice y.cp y.cs.length y.cc) ∧ w2.cell? ⟨blk, off + (k + 1) * 5 + 4, none⟩ = some (.slice y.mp y.ms.length y.mc)) := ⟨PlnAt.next (show PlnAt wr.drew blk (off + k * 5) x from PX.out) hb2, PlnAt.next (show PlnAt wr.drew blk (off + (k + 1) * 5) y from PY.out) hb2⟩)))
      clear hb2 hs2
      go_wp2_with fail
      go_roundw
      case rel => exact ⟨_, k + 1, by omega, hkn, rfl, by go_num, HR2.out, hz2, B2.out⟩
      case measure => simp [intOf]; omega
    · have hkd : decide ((k : Int) < (b : Int)) = false := by simp; omega
      have hR : Hid (t = R) := by
        show t = R
        have := HR1.out
        rwa [walkF_last (by rw [List.length_take]; omega)] at this
      clear hb hr
      go_wp2_with fail
      go_ret
      rw [hR.out]
      exact ⟨rfl, NB.out⟩


theorem take_subl {l : List Pln} {a b : Nat} (h1 : 1 ≤ a) (h2 : a ≤ b) : (l.take (b - 1 + 1)).drop (a - 1) = subl l a b := by
  unfold subl
  rw [List.drop_take, show b - 1 + 1 = b by omega]

/-- What versions answers. -/
def verE (l : List Pln) (E a b : Int) : Int := if E ≠ 0 then 1 else if a < 1 ∨ b < a ∨ (l.length : Int) < b then 7 else 0
set_option maxHeartbeats 4000000 in
theorem VersR_any (p : Option Addr) (n cap : Nat) (l : List Pln) (a b : Int) (w : World) (hE : Env w) (hL : PlnsAt w p l) (hl : l.length = n) (hS : ∀ y ∈ l, Sml y) (I E : Int) (h : ChkIs l I E) :
    Calls Tryz.prog 34 #[.slice p n cap, .int .i64 a, .int .i64 b] w fun e w' => e = .returned (.int .i64 (verE l E a b)) ∧ Below w.heap.size w w' := by
  have C1 := Lib.hid (GoodPR_any p n cap l w hE hL hl hS I E h)
  unfold verE
  rw [hl]
  clear hE hL hl hS h
  by_cases hz : E = 0
  · have e1 : (E == 0) = true := by rw [beq_iff_eq]; exact hz
    rw [if_neg (fun k => k hz)]
    rw [e1] at C1
    clear hz e1
    by_cases c1 : a < 1
    · have d1 : decide (a < 1) = true := decide_eq_true c1
      rw [if_pos (.inl c1)]
      clear c1
      go_enter Tryz.func34, Tryz.ntmps34
      go_wp2_with fail
      refine C1.out.mono ?_
      rintro e w2 ⟨rfl, hb⟩
      go_wp2_with fail
      go_ret
      exact ⟨rfl, hb⟩
    have d1 : decide (a < 1) = false := decide_eq_false c1
    by_cases c2 : b < a
    · have d2 : decide (a > b) = true := decide_eq_true c2
      rw [if_pos (.inr (.inl c2))]
      clear c1 c2
      go_enter Tryz.func34, Tryz.ntmps34
      go_wp2_with fail
      refine C1.out.mono ?_
      rintro e w2 ⟨rfl, hb⟩
      go_wp2_with fail
      go_ret
      exact ⟨rfl, hb⟩
    have d2 : decide (a > b) = false := decide_eq_false c2
    by_cases c3 : (n : Int) < b
    · have d3 : decide (b > (n : Int)) = true := decide_eq_true c3
      rw [if_pos (.inr (.inr c3))]
      clear c1 c2 c3
      go_enter Tryz.func34, Tryz.ntmps34
      go_wp2_with fail
      refine C1.out.mono ?_
      rintro e w2 ⟨rfl, hb⟩
      go_wp2_with fail
      go_ret
      exact ⟨rfl, hb⟩
    have d3 : decide (b > (n : Int)) = false := decide_eq_false c3
    rw [if_neg (fun k => k.elim c1 (fun k => k.elim c2 c3))]
    clear c1 c2 c3
    go_enter Tryz.func34, Tryz.ntmps34
    go_wp2_with fail
    refine C1.out.mono ?_
    rintro e w2 ⟨rfl, hb⟩
    go_wp2_with fail
    go_ret
    exact ⟨rfl, hb⟩
  · have e1 : (E == 0) = false := by rw [beq_eq_false_iff_ne]; exact hz
    rw [if_pos hz]
    rw [e1] at C1
    clear hz e1
    go_enter Tryz.func34, Tryz.ntmps34
    go_wp2_with fail
    refine C1.out.mono ?_
    rintro e w2 ⟨rfl, hb⟩
    go_wp2_with fail
    go_ret
    exact ⟨rfl, hb⟩

set_option maxRecDepth 100000 in
set_option maxHeartbeats 8000000 in
theorem FollowR_any (p : Option Addr) (n cap : Nat) (l : List Pln) (a b : Int) (s : ByteArray) (w : World) (hE : Env w) (hL : PlnsAt w p l) (hl : l.length = n) (hS : ∀ y ∈ l, Sml y) (I E : Int) (h : ChkIs l I E) (hs : s.size ≤ 1000000000000) (R : ByteArray) (r : Int) (hr : FolIs l E a b s R r) :
    Calls Tryz.prog 13 #[.slice p n cap, .int .i64 a, .int .i64 b, .string s] w fun e w' => e = .returned (.tuple #[.string R, .int .i64 r]) ∧ Below w.heap.size w w' := by
  have hlen : E = 0 → l.length ≤ 16 := fun hz => by
    rcases h with ⟨_, _, h3⟩ | ⟨h1, _⟩ | ⟨i, h1, _⟩
    · omega
    · exact h1
    · exact h1
  have HLEN := Lib.hid hlen
  have C1 := Lib.hid (VersR_any p n cap l a b w hE hL hl hS I E h)
  have L0 := Lib.hid hL; have E0 := Lib.hid hE; have HS := Lib.hid hS; have HL := Lib.hid hl
  rcases hr with ⟨h1, rfl, rfl⟩ | ⟨h1, h2, rfl, rfl⟩ | ⟨h1, a', b', x, rfl, rfl, g1, g2, g3, g4, g5⟩
  · have e1 : verE l E a b = 1 := by unfold verE; rw [if_pos h1]
    rw [e1] at C1
    clear hE hL hl hS h hlen h1 e1
    go_enter Tryz.func13, Tryz.ntmps13
    go_wp2_with fail
    refine C1.out.mono ?_
    rintro e w2 ⟨rfl, hb⟩
    go_wp2_with fail
    go_ret2
    exact ⟨rfl, hb⟩
  · have e1 : verE l E a b = 7 := by unfold verE; rw [if_neg (fun k => k h1), if_pos h2]
    rw [e1] at C1
    clear hE hL hl hS h hlen h1 h2 e1
    go_enter Tryz.func13, Tryz.ntmps13
    go_wp2_with fail
    refine C1.out.mono ?_
    rintro e w2 ⟨rfl, hb⟩
    go_wp2_with fail
    go_ret2
    exact ⟨rfl, hb⟩
  · have e1 : verE l E (a' : Int) (b' : Int) = 0 := by unfold verE; rw [if_neg (fun k => k h1), if_neg (by omega)]
    rw [e1] at C1
    have l16 := hlen h1
    obtain ⟨blk, off, rfl, hpx, hkx⟩ := hL.get g4
    have PX := Lib.hid hpx; have KX := Lib.hid hkx
    have SX := hS x (List.mem_of_getElem? g4)
    have C2 := Lib.hid (fun w1 (h1 : Below w.heap.size w w1) => HasR_any x s w1 (KX.out.next h1) SX.1)
    have C3 := Lib.hid (fun w1 (h1 : Below w.heap.size w w1) => WalkR_any (some ⟨blk, off, none⟩) n cap (a' - 1) (b' - 1) l s w1 (E0.out.below h1) (L0.out.next h1) HL.out (by omega) (by omega) (by omega) HS.out hs)
    rw [take_subl g1 g2] at C3
    obtain ⟨K, hK⟩ : ∃ K, K = walkF (subl l a' b') s := ⟨_, rfl⟩
    obtain ⟨H, hH⟩ : ∃ H, H = has x.cs s := ⟨_, rfl⟩
    rw [← hK] at C3 g5
    rw [← hH] at C2 g5
    have GG := Lib.hid g5
    have i1 : (0 : Int) ≤ (a' : Int) - 1 := by omega
    have i2 : (a' : Int) - 1 < (n : Int) := by omega
    have i3 : ((a' : Int) - 1).toNat = a' - 1 := by omega
    have i4 : IntKind.i64.wrap ((a' : Int) - 1) = (a' : Int) - 1 := IntWalk.i64_in _ (by omega)
    have i5 : IntKind.i64.wrap ((b' : Int) - 1) = (b' : Int) - 1 := IntWalk.i64_in _ (by omega)
    have i6 : ((a' - 1 : Nat) : Int) = (a' : Int) - 1 := by omega
    have i7 : ((b' - 1 : Nat) : Int) = (b' : Int) - 1 := by omega
    have i8 : (1 : Int) ≤ (a' : Int) := by omega
    have i9 : (a' : Int) ≤ (n : Int) := by omega
    rw [i6, i7] at C3
    unfold Pln.val at C2
    clear hE hL hl hS h hlen h1 e1 g1 g2 g3 g4 g5 hpx hkx SX hK hH l16
    go_enter Tryz.func13, Tryz.ntmps13
    go_wp2_with fail
    refine C1.out.mono ?_
    rintro e w2 ⟨rfl, hb⟩
    have B2 := Lib.hid hb
    have P2 := PX.out.next hb
    have x0 := P2.1; have x1 := P2.2.1; have x2 := P2.2.2.1; have x3 := P2.2.2.2.1; have x4 := P2.2.2.2.2
    have zb := P2.lt
    clear hb P2
    go_wp2_with fail
    refine (C2.out _ B2.out).mono ?_
    rintro e w3 ⟨rfl, hb⟩
    have B3 := Lib.hid (B2.out.trans (hb.mono B2.out.size))
    clear hb x0 x1 x2 x3 x4 C2
    cases H with
    | false =>
      have hR : Hid (R = emp ∧ r = 7) := by
        show R = emp ∧ r = 7
        rcases GG.out with ⟨_, g⟩ | ⟨g, _⟩
        · exact g
        · cases g
      go_wp2_with fail
      go_ret2
      exact ⟨ret_si hR.out.1.symm hR.out.2.symm, B3.out⟩
    | true =>
      have hR : Hid (R = K ∧ r = 0) := by
        show R = K ∧ r = 0
        rcases GG.out with ⟨g, _⟩ | ⟨_, g⟩
        · cases g
        · exact g
      go_wp2_with fail
      refine (C3.out _ B3.out).mono ?_
      rintro e w4 ⟨rfl, hb⟩
      have B4 := Lib.hid (B3.out.trans (hb.mono B3.out.size))
      clear hb
      go_wp2_with fail
      go_ret2
      exact ⟨ret_si hR.out.1.symm hR.out.2.symm, B4.out⟩

end Go.Proofs.YtbjbioiggjhknaaGreatDoor
