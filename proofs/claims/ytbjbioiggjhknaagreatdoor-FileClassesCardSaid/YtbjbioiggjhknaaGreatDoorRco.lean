/-
  The reference's ClassOn and Class of a file. No statement of the seat is proved here.
-/
import Derived.Test.YtbjbioiggjhknaaGreatDoorRwk
import Derived.Test.YtbjbioiggjhknaaGreatDoorVn
namespace Go.Proofs.YtbjbioiggjhknaaGreatDoor
open Go Go.RowKit


theorem fil_cellsR (v : World) (x : Fil) (b : Nat) (h : FilAt v b 0 x) : (v.cell? ⟨b, 0, none⟩ = some (.int .i64 x.id) ∧ v.cell? ⟨b, 1, none⟩ = some (.int .i64 x.of) ∧ v.cell? ⟨b, 2, none⟩ = some (.int .i64 x.op) ∧ v.cell? ⟨b, 3, none⟩ = some (.int .i64 x.cl) ∧ v.cell? ⟨b, 4, none⟩ = some (.string x.c) ∧ v.cell? ⟨b, 5, none⟩ = some (.string x.t) ∧ v.cell? ⟨b, 6, none⟩ = some (.int .i64 x.pt) ∧ v.cell? ⟨b, 7, none⟩ = some (.slice x.np x.ns.length x.nc)) := ⟨h.c0, h.c1, h.c2, h.c3, h.c4, h.c5, h.c6, h.c7⟩
def clsV (R : ByteArray) (r : Int) : Value := if r = 7 then .tuple #[.string ⟨#[]⟩, .int .i64 24] else .tuple #[.string R, .int .i64 r]

set_option maxRecDepth 100000 in
set_option maxHeartbeats 8000000 in
theorem ClassOnR_any (p : Option Addr) (n cap : Nat) (l : List Pln) (x : Fil) (d : Int) (w : World) (hE : Env w) (hL : PlnsAt w p l) (hl : l.length = n) (hn : n ≤ 100) (hS : ∀ y ∈ l, Sml y) (hs : x.c.size ≤ 1000000000000)
    (R : ByteArray) (r : Int) (hr : FolIs l 0 (vno l x.op) (vno l d) x.c R r) :
    Calls Tryz.prog 44 #[.slice p n cap, x.val, .int .i64 d] w fun e w' => e = .returned (clsV R r) ∧ Below w.heap.size w w' := by
  obtain ⟨W1, hW1⟩ : ∃ W1, W1 = w.alloc (.cells x.cells 39) := ⟨_, rfl⟩
  have B1 : Hid (Below w.heap.size w W1) := by rw [hW1]; exact (Below.refl _ _).alloc (Nat.le_refl _) _
  obtain ⟨b, hb⟩ : ∃ b, b = w.heap.size := ⟨_, rfl⟩
  have X1 : Hid (FilAt W1 b 0 x) := by rw [hW1, hb]; exact fil_new w x 39
  have L0 := Lib.hid hL; have E0 := Lib.hid hE; have HL := Lib.hid hl; have HS := Lib.hid hS
  have C1 := Lib.hid (fun (d0 : Int) v (h : Below w.heap.size w v) => IndexR_any p n cap l d0 v (L0.out.next h) HL.out (by omega))
  have i1 := idx_lt l x.op; have i2 := idx_lt l d
  unfold vno at hr
  obtain ⟨F, hF⟩ : ∃ F, F = idxV (l.findIdx? (on x.op)) := ⟨_, rfl⟩
  obtain ⟨G, hG⟩ : ∃ G, G = idxV (l.findIdx? (on d)) := ⟨_, rfl⟩
  have D1 := Lib.hid (C1.out x.op); have D2 := Lib.hid (C1.out d)
  rw [← hF] at D1 i1 hr
  rw [← hG] at D2 i2 hr
  rw [hl] at i1 i2
  have XC := Lib.hid (fun v h => fil_cellsR v x b h)
  have hle : F ≤ 1000 ∧ G ≤ 1000 := by omega
  have WAY : Hid (((F < 0 ∨ G < F) ∧ r = 7) ∨ (∃ (k m : Nat) (y : Pln), F = k ∧ G = m ∧ k ≤ m ∧ m < n ∧ l[k]? = some y ∧ ((has y.cs x.c = false ∧ r = 7) ∨ (has y.cs x.c = true ∧ r = 0 ∧ R = walkF ((l.take (m + 1)).drop k) x.c)))) := by
    show _ ∨ _
    rcases hr with ⟨h1, _⟩ | ⟨_, h1, h2, h3⟩ | ⟨_, a', b', y, g1, g2, g3, g4, g5, g6, g7⟩
    · exact absurd rfl h1
    · exact .inl ⟨by omega, h3⟩
    · refine .inr ⟨a' - 1, b' - 1, y, by omega, by omega, by omega, by omega, g6, ?_⟩
      rcases g7 with ⟨k1, k2, k3⟩ | ⟨k1, k2, k3⟩
      · exact .inl ⟨k1, k3⟩
      · exact .inr ⟨k1, k3, by rw [k2, take_subl g3 g4]⟩
  unfold Fil.val Fil.cells at *
  clear hE hL hl hS hr hF hG C1
  go_enter Tryz.func44, Tryz.ntmps44
  go_wp2_with fail
  rw [← hW1, ← hb]
  clear hW1 hb
  obtain ⟨x0, x1, x2, x3, x4, x5, x6, x7⟩ := XC.out _ X1.out
  go_wp2_with fail
  refine (D1.out _ B1.out).mono ?_
  rintro e w2 ⟨rfl, hb⟩
  have B2 := Lib.hid (B1.out.trans (hb.mono B1.out.size)); have X2 := Lib.hid (X1.out.next hb)
  clear hb x0 x1 x2 x3 x4 x5 x6 x7 D1
  obtain ⟨x0, x1, x2, x3, x4, x5, x6, x7⟩ := XC.out _ X2.out
  go_wp2_with fail
  refine (D2.out _ B2.out).mono ?_
  rintro e w3 ⟨rfl, hb⟩
  have B3 := Lib.hid (B2.out.trans (hb.mono B2.out.size)); have X3 := Lib.hid (X2.out.next hb)
  clear hb x0 x1 x2 x3 x4 x5 x6 x7 D2
  obtain ⟨x0, x1, x2, x3, x4, x5, x6, x7⟩ := XC.out _ X3.out
  rcases WAY.out with ⟨h1, h2⟩ | ⟨k, m, y, rfl, rfl, g1, g2, g3, g4⟩
  · have hv : Hid (clsV R r = .tuple #[.string ⟨#[]⟩, .int .i64 24]) := by show _ = _; unfold clsV; rw [if_pos h2]
    by_cases c1 : F < 0
    · have d1 : decide (F < 0) = true := decide_eq_true c1
      clear c1 h1 h2 i1 i2 hle
      go_wp2_with fail
      go_quiet (fail)
      go_wp2_with fail
      go_ret2
      rw [hv.out]
      exact ⟨rfl, below_drewN B3.out _⟩
    · have d1 : decide (F < 0) = false := decide_eq_false c1
      have d2 : decide (G < F) = true := decide_eq_true (by omega)
      clear c1 h1 h2 i1 i2 hle
      go_wp2_with fail
      go_quiet (fail)
      go_wp2_with fail
      go_ret2
      rw [hv.out]
      exact ⟨rfl, below_drewN B3.out _⟩
  · have d1 : decide ((k : Int) < 0) = false := decide_eq_false (by omega)
    have d2 : decide ((m : Int) < (k : Int)) = false := decide_eq_false (by omega)
    have d3 : decide (m < k) = false := decide_eq_false (by omega)
    have j1 : (0 : Int) ≤ (k : Int) := by omega
    have j2 : (k : Int) < (n : Int) := by omega
    obtain ⟨blk, off, rfl, hpy, hky⟩ := (L0.out.next B3.out).get g3
    have PY := Lib.hid hpy; have KY := Lib.hid hky
    have SY := HS.out y (List.mem_of_getElem? g3)
    have y0 := hpy.1; have y1 := hpy.2.1; have y2 := hpy.2.2.1; have y3 := hpy.2.2.2.1; have y4 := hpy.2.2.2.2
    have zy := hpy.lt
    have C2 := Lib.hid (fun v (h : Below w3.heap.size w3 v) => HasR_any y x.c v (KY.out.next h) SY.1)
    have C3 := Lib.hid (fun v (h : Below w.heap.size w v) => WalkR_any (some ⟨blk, off, none⟩) n cap k m l x.c v (E0.out.below h) (L0.out.next h) HL.out g1 g2 hn HS.out hs)
    obtain ⟨K, hK⟩ : ∃ K, K = walkF ((l.take (m + 1)).drop k) x.c := ⟨_, rfl⟩
    obtain ⟨H, hH⟩ : ∃ H, H = has y.cs x.c := ⟨_, rfl⟩
    rw [← hK] at C3 g4
    rw [← hH] at C2 g4
    have G4 := Lib.hid g4
    unfold Pln.val at C2
    have SS : Hid (∀ v : World, Below w3.heap.size w3 v → ((v.cell? ⟨b, 0, none⟩ = some (.int .i64 x.id) ∧ v.cell? ⟨b, 1, none⟩ = some (.int .i64 x.of) ∧ v.cell? ⟨b, 2, none⟩ = some (.int .i64 x.op) ∧ v.cell? ⟨b, 3, none⟩ = some (.int .i64 x.cl) ∧ v.cell? ⟨b, 4, none⟩ = some (.string x.c) ∧ v.cell? ⟨b, 5, none⟩ = some (.string x.t) ∧ v.cell? ⟨b, 6, none⟩ = some (.int .i64 x.pt) ∧ v.cell? ⟨b, 7, none⟩ = some (.slice x.np x.ns.length x.nc)) ∧ (v.cell? ⟨blk, off + k * 5, none⟩ = some (.int .i64 y.v) ∧ v.cell? ⟨blk, off + k * 5 + 1, none⟩ = some (.int .i64 y.f) ∧ v.cell? ⟨blk, off + k * 5 + 2, none⟩ = some (.int .i64 y.u) ∧ v.cell? ⟨blk, off + k * 5 + 3, none⟩ = some (.slice y.cp y.cs.length y.cc) ∧ v.cell? ⟨blk, off + k * 5 + 4, none⟩ = some (.slice y.mp y.ms.length y.mc)))) := fun v h => ⟨XC.out v (X3.out.next h), PY.out.next h⟩
    have HC := Lib.hid (SS.out w3 (Below.refl _ _)); have HCd := Lib.hid (SS.out w3.drew (below_drewN (Below.refl _ _) 1))
    have zb := (X3.out.c0 |> World.block_lt_of_cell? w3 _)
    clear g1 g2 g3 g4 hpy hky SY hK hH i1 i2 hle
    go_wp2_with fail
    go_region_held3 (fun v => ((v.cell? ⟨b, 0, none⟩ = some (.int .i64 x.id) ∧ v.cell? ⟨b, 1, none⟩ = some (.int .i64 x.of) ∧ v.cell? ⟨b, 2, none⟩ = some (.int .i64 x.op) ∧ v.cell? ⟨b, 3, none⟩ = some (.int .i64 x.cl) ∧ v.cell? ⟨b, 4, none⟩ = some (.string x.c) ∧ v.cell? ⟨b, 5, none⟩ = some (.string x.t) ∧ v.cell? ⟨b, 6, none⟩ = some (.int .i64 x.pt) ∧ v.cell? ⟨b, 7, none⟩ = some (.slice x.np x.ns.length x.nc)) ∧ (v.cell? ⟨blk, off + k * 5, none⟩ = some (.int .i64 y.v) ∧ v.cell? ⟨blk, off + k * 5 + 1, none⟩ = some (.int .i64 y.f) ∧ v.cell? ⟨blk, off + k * 5 + 2, none⟩ = some (.int .i64 y.u) ∧ v.cell? ⟨blk, off + k * 5 + 3, none⟩ = some (.slice y.cp y.cs.length y.cc) ∧ v.cell? ⟨blk, off + k * 5 + 4, none⟩ = some (.slice y.mp y.ms.length y.mc)))) (first | exact HC.out | exact HCd.out | assumption)
      ((first
        | (go_at_call 35; refine (C2.out _ (below_drewN (Below.refl _ _) 1)).mono ?_; rintro e w4 ⟨rfl, hb4⟩; have hw4 : Below w3.heap.size w3 w4 := (below_drewN (Below.refl _ _) 1).trans hb4; have hs4 := SS.out w4 hw4)))
    have B4 := Lib.hid (B3.out.trans (hw4.mono B3.out.size))
    have Z4 := Lib.hid hs4.1
    clear hb4 hw4 hs4 x0 x1 x2 x3 x4 x5 x6 x7 y0 y1 y2 y3 y4 C2 SS HC HCd
    cases H with
    | false =>
      have hv : Hid (clsV R r = .tuple #[.string ⟨#[]⟩, .int .i64 24]) := by
        show _ = _
        unfold clsV
        rcases G4.out with ⟨_, g⟩ | ⟨g, _⟩
        · rw [if_pos g]
        · cases g
      go_wp2_with fail
      go_ret2
      rw [hv.out]
      exact ⟨rfl, B4.out⟩
    | true =>
      have hv : Hid (clsV R r = .tuple #[.string K, .int .i64 0]) := by
        show _ = _
        unfold clsV
        rcases G4.out with ⟨g, _⟩ | ⟨_, g, g2⟩
        · cases g
        · rw [if_neg (by omega), g, g2]
      obtain ⟨x0, x1, x2, x3, x4, x5, x6, x7⟩ := Z4.out
      go_wp2_with fail
      refine (C3.out _ B4.out).mono ?_
      rintro e w5 ⟨rfl, hb⟩
      have B5 := Lib.hid (B4.out.trans (hb.mono B4.out.size))
      clear hb
      go_wp2_with fail
      go_ret2
      rw [hv.out]
      exact ⟨rfl, B5.out⟩

set_option maxRecDepth 100000 in
set_option maxHeartbeats 8000000 in
theorem ClassR_any (p : Option Addr) (n cap : Nat) (l : List Pln) (x : Fil) (d : Int) (w : World) (hE : Env w) (hL : PlnsAt w p l) (hl : l.length = n) (hn : n ≤ 100) (hS : ∀ y ∈ l, Sml y) (hs : x.c.size ≤ 1000000000000) (I E : Int) (h : ChkIs l I E)
    (R : ByteArray) (r : Int) (hr : FolIs l E (vno l x.op) (vno l d) x.c R r) :
    Calls Tryz.prog 20 #[.slice p n cap, x.val, .int .i64 d] w fun e w' => e = .returned (clsV R r) ∧ Below w.heap.size w w' := by
  obtain ⟨W1, hW1⟩ : ∃ W1, W1 = w.alloc (.cells x.cells 39) := ⟨_, rfl⟩
  have B1 : Hid (Below w.heap.size w W1) := by rw [hW1]; exact (Below.refl _ _).alloc (Nat.le_refl _) _
  obtain ⟨b, hb⟩ : ∃ b, b = w.heap.size := ⟨_, rfl⟩
  have X1 : Hid (FilAt W1 b 0 x) := by rw [hW1, hb]; exact fil_new w x 39
  have XC := Lib.hid (fun v h => fil_cellsR v x b h)
  have C1 := Lib.hid (GoodPR_any p n cap l W1 (hE.below B1.out) (hL.next B1.out) hl hS I E h)
  by_cases hz : E = 0
  · subst hz
    have C2 := Lib.hid (fun v (h : Below w.heap.size w v) => ClassOnR_any p n cap l x d v (hE.below h) (hL.next h) hl hn hS hs R r hr)
    obtain ⟨V, hV⟩ : ∃ V, V = clsV R r := ⟨_, rfl⟩
    rw [← hV] at C2 ⊢
    have hform : ∃ t q, V = .tuple #[.string t, .int .i64 q] := by
      rw [hV]
      unfold clsV
      split <;> exact ⟨_, _, rfl⟩
    obtain ⟨t, q, rfl⟩ := hform
    have e1 : ((0 : Int) == 0) = true := rfl
    rw [e1] at C1
    unfold Fil.val Fil.cells at *
    clear hE hL hl hS h hr hV
    go_enter Tryz.func20, Tryz.ntmps20
    go_wp2_with fail
    rw [← hW1, ← hb]
    clear hW1 hb
    go_wp2_with fail
    refine C1.out.mono ?_
    rintro e w2 ⟨rfl, hb⟩
    have B2 := Lib.hid (B1.out.trans (hb.mono B1.out.size)); have X2 := Lib.hid (X1.out.next hb)
    clear hb C1
    obtain ⟨x0, x1, x2, x3, x4, x5, x6, x7⟩ := XC.out _ X2.out
    go_wp2_with fail
    refine (C2.out _ B2.out).mono ?_
    rintro e w3 ⟨rfl, hb⟩
    have B3 := Lib.hid (B2.out.trans (hb.mono B2.out.size))
    clear hb
    go_wp2_with fail
    go_ret2
    exact ⟨rfl, B3.out⟩
  · have e1 : (E == 0) = false := by rw [beq_eq_false_iff_ne]; exact hz
    have hv : Hid (clsV R r = .tuple #[.string ⟨#[]⟩, .int .i64 1]) := by
      show _ = _
      rcases hr with ⟨_, h1, h2⟩ | ⟨h1, _⟩ | ⟨h1, _⟩
      · unfold clsV; rw [if_neg (by omega), h1, h2]; rfl
      · exact absurd h1 hz
      · exact absurd h1 hz
    rw [e1] at C1
    unfold Fil.val Fil.cells at *
    clear hE hL hl hS h hr hz e1
    go_enter Tryz.func20, Tryz.ntmps20
    go_wp2_with fail
    rw [← hW1, ← hb]
    clear hW1 hb
    go_wp2_with fail
    refine C1.out.mono ?_
    rintro e w2 ⟨rfl, hb⟩
    have B2 := Lib.hid (B1.out.trans (hb.mono B1.out.size))
    clear hb C1
    go_wp2_with fail
    go_ret2
    rw [hv.out]
    exact ⟨rfl, B2.out⟩

end Go.Proofs.YtbjbioiggjhknaaGreatDoor
