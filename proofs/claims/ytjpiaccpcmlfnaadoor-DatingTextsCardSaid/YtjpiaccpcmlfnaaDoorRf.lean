/-
  The reference's Format. No statement of the seat is proved here.
-/
import Derived.Test.YtjpiaccpcmlfnaaDoorRe
import Derived.Test.YtjpiaccpcmlfnaaDoorFmt
import Derived.Deep.RegionHeld3
import Derived.BigQuiet
namespace Go.Proofs.YtjpiaccpcmlfnaaDoor
open Go.RowKit Cal
open Classical

theorem cell_new3 {w : World} {p : Addr} {v : Value} (o : Obj) (h : w.cell? p = some v) : (w.alloc o).cell? p = some v :=
  (World.cell?_alloc_lt _ o p (World.block_lt_of_cell? _ _ h)).trans h
theorem far2 {w w' : World} {b : Nat} {u v : Value} (h : w.cell? ⟨b, 0, none⟩ = some u ∧ w.cell? ⟨b, 1, none⟩ = some v) (hb : Below w.heap.size w w') : w'.cell? ⟨b, 0, none⟩ = some u ∧ w'.cell? ⟨b, 1, none⟩ = some v :=
  ⟨(hb.cell (p := ⟨b, 0, none⟩) (World.block_lt_of_cell? _ _ h.1)).trans h.1, (hb.cell (p := ⟨b, 1, none⟩) (World.block_lt_of_cell? _ _ h.2)).trans h.2⟩

theorem below_dw {B : Nat} {a w : World} (h : Below B a w) : Below B a w.drew := ⟨h.os, h.tape, h.output, h.size, h.block⟩
theorem far3 {w w' : World} {b : Nat} {u v : Value} (hb : Below w.heap.size w w') (h : w.cell? ⟨b, 0, none⟩ = some u ∧ w.cell? ⟨b, 1, none⟩ = some v) : w'.cell? ⟨b, 0, none⟩ = some u ∧ w'.cell? ⟨b, 1, none⟩ = some v := far2 h hb

set_option maxHeartbeats 4000000 in
theorem rfmt_year (a b y m d u v P Q : Int) (S : ByteArray) (w : World)
    (g : ∀ w, Calls Tryd.prog 30 #[.agg #[.int .i64 a, .int .i64 b]] w fun e w' => e = .returned (.bool true) ∧ Below w.heap.size w w')
    (c1 : ∀ w, Calls Tryd.prog 37 #[.int .i64 a] w fun e w' => e = .returned (.tuple #[.string S, .int .i64 0]) ∧ w = w')
    (c2 : ∀ w, Calls Tryd.prog 38 #[.int .i64 a] w fun e w' => e = .returned (.tuple #[.int .i64 y, .int .i64 m, .int .i64 d, .int .i64 0]) ∧ w = w')
    (c3 : ∀ w, Calls Tryd.prog 39 #[.int .i64 y, .int .i64 m] w fun e w' => e = .returned (.tuple #[.agg #[.int .i64 P, .int .i64 Q], .bool true]) ∧ Below w.heap.size w w')
    (c4 : ∀ w, Calls Tryd.prog 40 #[.int .i64 y] w fun e w' => e = .returned (.agg #[.int .i64 u, .int .i64 v]) ∧ Below w.heap.size w w')
    (s4 : 4 ≤ S.size) (ne : (a == 0) = false ∨ (b == 1048575) = false) (eu : (a == u) = true) (ev : (b == v) = true) :
    Calls Tryd.prog 25 #[.agg #[.int .i64 a, .int .i64 b]] w fun e w' => e = .returned (.tuple #[.string (S.extract 0 4), .int .i64 0]) ∧ Below w.heap.size w w' := by
  have G := Lib.hid g; have C1 := Lib.hid c1; have C2 := Lib.hid c2; have C3 := Lib.hid c3; have C4 := Lib.hid c4
  clear g c1 c2 c3 c4
  rcases ne with ne | ne <;> {
    go_enter Tryd.func25, Tryd.ntmps25
    go_wp2_with fail
    refine (G.out _).mono ?_
    rintro e w0 ⟨rfl, hb⟩
    have B0 := Lib.hid (((Below.refl w.heap.size w).alloc (Nat.le_refl _) (.cells #[.int .i64 a, .int .i64 b] 23)).trans (hb.mono (by simp)))
    obtain ⟨c0, c1, _, _, z⟩ := keep2 hb
    have X0 : Hid (w0.cell? ⟨w.heap.size, 0, none⟩ = some (.int .i64 a) ∧ w0.cell? ⟨w.heap.size, 1, none⟩ = some (.int .i64 b)) := ⟨c0, c1⟩
    clear hb
    go_wp2_with fail
    refine (C1.out _).mono ?_
    rintro e w' ⟨rfl, rfl⟩
    go_wp2_with fail
    refine (C2.out _).mono ?_
    rintro e w' ⟨rfl, rfl⟩
    go_wp2_with fail
    refine (C3.out _).mono ?_
    rintro e w1 ⟨rfl, hb⟩
    have B1 := Lib.hid (B0.out.trans (hb.mono B0.out.size))
    have X1 := Lib.hid (far2 X0.out hb)
    clear hb c0 c1
    have X2 : Hid (∀ o, (w1.alloc o).cell? ⟨w.heap.size, 0, none⟩ = some (.int .i64 a) ∧ (w1.alloc o).cell? ⟨w.heap.size, 1, none⟩ = some (.int .i64 b)) := fun o => ⟨cell_new3 o X1.out.1, cell_new3 o X1.out.2⟩
    have X3 := Lib.hid (X2.out (.cells #[.int .i64 P, .int .i64 Q] 23))
    go_wp2_with fail
    go_region_held3 (fun v => v.cell? ⟨w.heap.size, 0, none⟩ = some (.int .i64 a) ∧ v.cell? ⟨w.heap.size, 1, none⟩ = some (.int .i64 b)) (first | exact X3.out | assumption)
      ((first
        | (go_at_call 40; refine (C4.out _).mono ?_; rintro e w2 ⟨rfl, hb⟩; have hs : w2.cell? ⟨w.heap.size, 0, none⟩ = some (.int .i64 a) ∧ w2.cell? ⟨w.heap.size, 1, none⟩ = some (.int .i64 b) := far3 hb X3.out)))
    have D := (below_dw (Below.refl _ (w1.alloc (.cells #[.int .i64 P, .int .i64 Q] 23)))).trans (show Below (w1.alloc (.cells #[.int .i64 P, .int .i64 Q] 23)).heap.size (w1.alloc (.cells #[.int .i64 P, .int .i64 Q] 23)).drew w2 from hb)
    have B2 := Lib.hid ((B1.out.alloc B1.out.size (.cells #[.int .i64 P, .int .i64 Q] 23)).trans (D.mono (by have := B1.out.size; simp; omega)))
    obtain ⟨z0, z1, _, _, _⟩ := keep2 D
    obtain ⟨x0, x1⟩ := hs
    clear D hb
    go_wp2_with fail
    go_ret2
    exact ⟨rfl, B2.out⟩ }

set_option maxHeartbeats 4000000 in
theorem rfmt_month (a b y m d u v P Q : Int) (S : ByteArray) (w : World)
    (g : ∀ w, Calls Tryd.prog 30 #[.agg #[.int .i64 a, .int .i64 b]] w fun e w' => e = .returned (.bool true) ∧ Below w.heap.size w w')
    (c1 : ∀ w, Calls Tryd.prog 37 #[.int .i64 a] w fun e w' => e = .returned (.tuple #[.string S, .int .i64 0]) ∧ w = w')
    (c2 : ∀ w, Calls Tryd.prog 38 #[.int .i64 a] w fun e w' => e = .returned (.tuple #[.int .i64 y, .int .i64 m, .int .i64 d, .int .i64 0]) ∧ w = w')
    (c3 : ∀ w, Calls Tryd.prog 39 #[.int .i64 y, .int .i64 m] w fun e w' => e = .returned (.tuple #[.agg #[.int .i64 P, .int .i64 Q], .bool true]) ∧ Below w.heap.size w w')
    (c4 : ∀ w, Calls Tryd.prog 40 #[.int .i64 y] w fun e w' => e = .returned (.agg #[.int .i64 u, .int .i64 v]) ∧ Below w.heap.size w w')
    (s7 : 7 ≤ S.size) (ne : (a == 0) = false ∨ (b == 1048575) = false) (ny : (a == u) = false ∨ (b == v) = false) (eu : (a == P) = true) (ev : (b == Q) = true) :
    Calls Tryd.prog 25 #[.agg #[.int .i64 a, .int .i64 b]] w fun e w' => e = .returned (.tuple #[.string (S.extract 0 7), .int .i64 0]) ∧ Below w.heap.size w w' := by
  have G := Lib.hid g; have C1 := Lib.hid c1; have C2 := Lib.hid c2; have C3 := Lib.hid c3; have C4 := Lib.hid c4
  clear g c1 c2 c3 c4
  rcases ne with ne | ne <;> rcases ny with ny | ny <;> {
    go_enter Tryd.func25, Tryd.ntmps25
    go_wp2_with fail
    refine (G.out _).mono ?_
    rintro e w0 ⟨rfl, hb⟩
    have B0 := Lib.hid (((Below.refl w.heap.size w).alloc (Nat.le_refl _) (.cells #[.int .i64 a, .int .i64 b] 23)).trans (hb.mono (by simp)))
    obtain ⟨c0, c1, _, _, z⟩ := keep2 hb
    have X0 : Hid (w0.cell? ⟨w.heap.size, 0, none⟩ = some (.int .i64 a) ∧ w0.cell? ⟨w.heap.size, 1, none⟩ = some (.int .i64 b)) := ⟨c0, c1⟩
    clear hb
    go_wp2_with fail
    refine (C1.out _).mono ?_
    rintro e w' ⟨rfl, rfl⟩
    go_wp2_with fail
    refine (C2.out _).mono ?_
    rintro e w' ⟨rfl, rfl⟩
    go_wp2_with fail
    refine (C3.out _).mono ?_
    rintro e w1 ⟨rfl, hb⟩
    have B1 := Lib.hid (B0.out.trans (hb.mono B0.out.size))
    have X1 := Lib.hid (far2 X0.out hb)
    clear hb c0 c1
    have X2 : Hid (∀ o, (w1.alloc o).cell? ⟨w.heap.size, 0, none⟩ = some (.int .i64 a) ∧ (w1.alloc o).cell? ⟨w.heap.size, 1, none⟩ = some (.int .i64 b)) := fun o => ⟨cell_new3 o X1.out.1, cell_new3 o X1.out.2⟩
    have X3 := Lib.hid (X2.out (.cells #[.int .i64 P, .int .i64 Q] 23))
    go_wp2_with fail
    go_region_held3 (fun v => v.cell? ⟨w.heap.size, 0, none⟩ = some (.int .i64 a) ∧ v.cell? ⟨w.heap.size, 1, none⟩ = some (.int .i64 b)) (first | exact X3.out | assumption)
      ((first
        | (go_at_call 40; refine (C4.out _).mono ?_; rintro e w2 ⟨rfl, hb⟩; have hs : w2.cell? ⟨w.heap.size, 0, none⟩ = some (.int .i64 a) ∧ w2.cell? ⟨w.heap.size, 1, none⟩ = some (.int .i64 b) := far3 hb X3.out)))
    have D := (below_dw (Below.refl _ (w1.alloc (.cells #[.int .i64 P, .int .i64 Q] 23)))).trans (show Below (w1.alloc (.cells #[.int .i64 P, .int .i64 Q] 23)).heap.size (w1.alloc (.cells #[.int .i64 P, .int .i64 Q] 23)).drew w2 from hb)
    have B2 := Lib.hid ((B1.out.alloc B1.out.size (.cells #[.int .i64 P, .int .i64 Q] 23)).trans (D.mono (by have := B1.out.size; simp; omega)))
    obtain ⟨z0, z1, _, _, _⟩ := keep2 D
    obtain ⟨x0, x1⟩ := hs
    clear D hb
    go_wp2_with fail
    go_ret2
    exact ⟨rfl, B2.out⟩ }

set_option maxHeartbeats 4000000 in
theorem rfmt_day (a b y m d u v P Q : Int) (S : ByteArray) (w : World)
    (g : ∀ w, Calls Tryd.prog 30 #[.agg #[.int .i64 a, .int .i64 b]] w fun e w' => e = .returned (.bool true) ∧ Below w.heap.size w w')
    (c1 : ∀ w, Calls Tryd.prog 37 #[.int .i64 a] w fun e w' => e = .returned (.tuple #[.string S, .int .i64 0]) ∧ w = w')
    (c2 : ∀ w, Calls Tryd.prog 38 #[.int .i64 a] w fun e w' => e = .returned (.tuple #[.int .i64 y, .int .i64 m, .int .i64 d, .int .i64 0]) ∧ w = w')
    (c3 : ∀ w, Calls Tryd.prog 39 #[.int .i64 y, .int .i64 m] w fun e w' => e = .returned (.tuple #[.agg #[.int .i64 P, .int .i64 Q], .bool true]) ∧ Below w.heap.size w w')
    (c4 : ∀ w, Calls Tryd.prog 40 #[.int .i64 y] w fun e w' => e = .returned (.agg #[.int .i64 u, .int .i64 v]) ∧ Below w.heap.size w w')
    (ne : (a == 0) = false ∨ (b == 1048575) = false) (ny : (a == u) = false ∨ (b == v) = false) (nm : (a == P) = false ∨ (b == Q) = false) (eab : (a == b) = true) :
    Calls Tryd.prog 25 #[.agg #[.int .i64 a, .int .i64 b]] w fun e w' => e = .returned (.tuple #[.string S, .int .i64 0]) ∧ Below w.heap.size w w' := by
  have G := Lib.hid g; have C1 := Lib.hid c1; have C2 := Lib.hid c2; have C3 := Lib.hid c3; have C4 := Lib.hid c4
  clear g c1 c2 c3 c4
  rcases ne with ne | ne <;> rcases ny with ny | ny <;> rcases nm with nm | nm <;> {
    go_enter Tryd.func25, Tryd.ntmps25
    go_wp2_with fail
    refine (G.out _).mono ?_
    rintro e w0 ⟨rfl, hb⟩
    have B0 := Lib.hid (((Below.refl w.heap.size w).alloc (Nat.le_refl _) (.cells #[.int .i64 a, .int .i64 b] 23)).trans (hb.mono (by simp)))
    obtain ⟨c0, c1, _, _, z⟩ := keep2 hb
    have X0 : Hid (w0.cell? ⟨w.heap.size, 0, none⟩ = some (.int .i64 a) ∧ w0.cell? ⟨w.heap.size, 1, none⟩ = some (.int .i64 b)) := ⟨c0, c1⟩
    clear hb
    go_wp2_with fail
    refine (C1.out _).mono ?_
    rintro e w' ⟨rfl, rfl⟩
    go_wp2_with fail
    refine (C2.out _).mono ?_
    rintro e w' ⟨rfl, rfl⟩
    go_wp2_with fail
    refine (C3.out _).mono ?_
    rintro e w1 ⟨rfl, hb⟩
    have B1 := Lib.hid (B0.out.trans (hb.mono B0.out.size))
    have X1 := Lib.hid (far2 X0.out hb)
    clear hb c0 c1
    have X2 : Hid (∀ o, (w1.alloc o).cell? ⟨w.heap.size, 0, none⟩ = some (.int .i64 a) ∧ (w1.alloc o).cell? ⟨w.heap.size, 1, none⟩ = some (.int .i64 b)) := fun o => ⟨cell_new3 o X1.out.1, cell_new3 o X1.out.2⟩
    have X3 := Lib.hid (X2.out (.cells #[.int .i64 P, .int .i64 Q] 23))
    go_wp2_with fail
    go_region_held3 (fun v => v.cell? ⟨w.heap.size, 0, none⟩ = some (.int .i64 a) ∧ v.cell? ⟨w.heap.size, 1, none⟩ = some (.int .i64 b)) (first | exact X3.out | assumption)
      ((first
        | (go_at_call 40; refine (C4.out _).mono ?_; rintro e w2 ⟨rfl, hb⟩; have hs : w2.cell? ⟨w.heap.size, 0, none⟩ = some (.int .i64 a) ∧ w2.cell? ⟨w.heap.size, 1, none⟩ = some (.int .i64 b) := far3 hb X3.out)))
    have D := (below_dw (Below.refl _ (w1.alloc (.cells #[.int .i64 P, .int .i64 Q] 23)))).trans (show Below (w1.alloc (.cells #[.int .i64 P, .int .i64 Q] 23)).heap.size (w1.alloc (.cells #[.int .i64 P, .int .i64 Q] 23)).drew w2 from hb)
    have B2 := Lib.hid ((B1.out.alloc B1.out.size (.cells #[.int .i64 P, .int .i64 Q] 23)).trans (D.mono (by have := B1.out.size; simp; omega)))
    obtain ⟨z0, z1, _, _, _⟩ := keep2 D
    obtain ⟨x0, x1⟩ := hs
    clear D hb
    go_wp2_with fail
    go_ret2
    exact ⟨rfl, B2.out⟩ }

set_option maxHeartbeats 4000000 in
theorem rfmt_bef (a b y m d u v P Q : Int) (S : ByteArray) (w : World)
    (g : ∀ w, Calls Tryd.prog 30 #[.agg #[.int .i64 a, .int .i64 b]] w fun e w' => e = .returned (.bool true) ∧ Below w.heap.size w w')
    (c1 : ∀ w, Calls Tryd.prog 37 #[.int .i64 a] w fun e w' => e = .returned (.tuple #[.string S, .int .i64 0]) ∧ w = w')
    (c2 : ∀ w, Calls Tryd.prog 38 #[.int .i64 a] w fun e w' => e = .returned (.tuple #[.int .i64 y, .int .i64 m, .int .i64 d, .int .i64 0]) ∧ w = w')
    (c3 : ∀ w, Calls Tryd.prog 39 #[.int .i64 y, .int .i64 m] w fun e w' => e = .returned (.tuple #[.agg #[.int .i64 P, .int .i64 Q], .bool true]) ∧ Below w.heap.size w w')
    (c4 : ∀ w, Calls Tryd.prog 40 #[.int .i64 y] w fun e w' => e = .returned (.agg #[.int .i64 u, .int .i64 v]) ∧ Below w.heap.size w w')
    (a0 : (a == 0) = true) (b9 : (b == 1048575) = false) (ny : (a == u) = false ∨ (b == v) = false) (nm : (a == P) = false ∨ (b == Q) = false) (eab : (a == b) = false) (h0 : 0 ≤ b) (h9 : b < 1048575) (X : ByteArray) (hX : X.size ≤ 10)
    (c5 : ∀ w, Calls Tryd.prog 41 #[.int .i64 (b + 1)] w fun e w' => e = .returned (.string X) ∧ w = w') :
    Calls Tryd.prog 25 #[.agg #[.int .i64 a, .int .i64 b]] w fun e w' => e = .returned (.tuple #[.string (bef ++ X), .int .i64 0]) ∧ Below w.heap.size w w' := by
  have G := Lib.hid g; have C1 := Lib.hid c1; have C2 := Lib.hid c2; have C3 := Lib.hid c3; have C4 := Lib.hid c4
  clear g c1 c2 c3 c4
  have C5 := Lib.hid c5
  clear c5
  have w1 : IntKind.i64.wrap (b + 1) = b + 1 := IntWalk.i64_in _ (by omega)
  have ADD : ∀ W : World, (Op.stringOp .add bef X).run Tryd.prog W = .ok (.string (bef ++ X)) W := fun W => run_string_add_sum W _ _ (by have h : bef.size = 7 := (by decide +kernel); omega)
  have ADD2 : ∀ W : World, (Op.stringOp .add ⟨#[98, 101, 102, 111, 114, 101, 32]⟩ X).run Tryd.prog W = .ok (.string (bef ++ X)) W := ADD
  clear ADD
  rcases ny with ny | ny <;> rcases nm with nm | nm <;> {
    go_enter Tryd.func25, Tryd.ntmps25
    go_wp2_with fail
    refine (G.out _).mono ?_
    rintro e w0 ⟨rfl, hb⟩
    have B0 := Lib.hid (((Below.refl w.heap.size w).alloc (Nat.le_refl _) (.cells #[.int .i64 a, .int .i64 b] 23)).trans (hb.mono (by simp)))
    obtain ⟨c0, c1, _, _, z⟩ := keep2 hb
    have X0 : Hid (w0.cell? ⟨w.heap.size, 0, none⟩ = some (.int .i64 a) ∧ w0.cell? ⟨w.heap.size, 1, none⟩ = some (.int .i64 b)) := ⟨c0, c1⟩
    clear hb
    go_wp2_with fail
    refine (C1.out _).mono ?_
    rintro e w' ⟨rfl, rfl⟩
    go_wp2_with fail
    refine (C2.out _).mono ?_
    rintro e w' ⟨rfl, rfl⟩
    go_wp2_with fail
    refine (C3.out _).mono ?_
    rintro e w1 ⟨rfl, hb⟩
    have B1 := Lib.hid (B0.out.trans (hb.mono B0.out.size))
    have X1 := Lib.hid (far2 X0.out hb)
    clear hb c0 c1
    have X2 : Hid (∀ o, (w1.alloc o).cell? ⟨w.heap.size, 0, none⟩ = some (.int .i64 a) ∧ (w1.alloc o).cell? ⟨w.heap.size, 1, none⟩ = some (.int .i64 b)) := fun o => ⟨cell_new3 o X1.out.1, cell_new3 o X1.out.2⟩
    have X3 := Lib.hid (X2.out (.cells #[.int .i64 P, .int .i64 Q] 23))
    go_wp2_with fail
    go_region_held3 (fun v => v.cell? ⟨w.heap.size, 0, none⟩ = some (.int .i64 a) ∧ v.cell? ⟨w.heap.size, 1, none⟩ = some (.int .i64 b)) (first | exact X3.out | assumption)
      ((first
        | (go_at_call 40; refine (C4.out _).mono ?_; rintro e w2 ⟨rfl, hb⟩; have hs : w2.cell? ⟨w.heap.size, 0, none⟩ = some (.int .i64 a) ∧ w2.cell? ⟨w.heap.size, 1, none⟩ = some (.int .i64 b) := far3 hb X3.out)))
    have D := (below_dw (Below.refl _ (w1.alloc (.cells #[.int .i64 P, .int .i64 Q] 23)))).trans (show Below (w1.alloc (.cells #[.int .i64 P, .int .i64 Q] 23)).heap.size (w1.alloc (.cells #[.int .i64 P, .int .i64 Q] 23)).drew w2 from hb)
    have B2 := Lib.hid ((B1.out.alloc B1.out.size (.cells #[.int .i64 P, .int .i64 Q] 23)).trans (D.mono (by have := B1.out.size; simp; omega)))
    obtain ⟨z0, z1, _, _, _⟩ := keep2 D
    obtain ⟨x0, x1⟩ := hs
    clear D hb
    go_wp2_with fail
    refine (C5.out _).mono ?_
    rintro e w3 ⟨rfl, rfl⟩
    go_wp2_with fail
    go_ret2
    exact ⟨rfl, B2.out⟩ }

set_option maxHeartbeats 4000000 in
theorem rfmt_aft (a b y m d u v P Q : Int) (S : ByteArray) (w : World)
    (g : ∀ w, Calls Tryd.prog 30 #[.agg #[.int .i64 a, .int .i64 b]] w fun e w' => e = .returned (.bool true) ∧ Below w.heap.size w w')
    (c1 : ∀ w, Calls Tryd.prog 37 #[.int .i64 a] w fun e w' => e = .returned (.tuple #[.string S, .int .i64 0]) ∧ w = w')
    (c2 : ∀ w, Calls Tryd.prog 38 #[.int .i64 a] w fun e w' => e = .returned (.tuple #[.int .i64 y, .int .i64 m, .int .i64 d, .int .i64 0]) ∧ w = w')
    (c3 : ∀ w, Calls Tryd.prog 39 #[.int .i64 y, .int .i64 m] w fun e w' => e = .returned (.tuple #[.agg #[.int .i64 P, .int .i64 Q], .bool true]) ∧ Below w.heap.size w w')
    (c4 : ∀ w, Calls Tryd.prog 40 #[.int .i64 y] w fun e w' => e = .returned (.agg #[.int .i64 u, .int .i64 v]) ∧ Below w.heap.size w w')
    (a0 : (a == 0) = false) (b9 : (b == 1048575) = true) (ny : (a == u) = false ∨ (b == v) = false) (nm : (a == P) = false ∨ (b == Q) = false) (eab : (a == b) = false) (h0 : 1 ≤ a) (h9 : a ≤ 1048575) (X : ByteArray) (hX : X.size ≤ 10)
    (c5 : ∀ w, Calls Tryd.prog 42 #[.int .i64 (a - 1)] w fun e w' => e = .returned (.string X) ∧ Below w.heap.size w w') :
    Calls Tryd.prog 25 #[.agg #[.int .i64 a, .int .i64 b]] w fun e w' => e = .returned (.tuple #[.string (aft ++ X), .int .i64 0]) ∧ Below w.heap.size w w' := by
  have G := Lib.hid g; have C1 := Lib.hid c1; have C2 := Lib.hid c2; have C3 := Lib.hid c3; have C4 := Lib.hid c4
  clear g c1 c2 c3 c4
  have C5 := Lib.hid c5
  clear c5
  have w1 : IntKind.i64.wrap (a - 1) = a - 1 := IntWalk.i64_in _ (by omega)
  have ADD : ∀ W : World, (Op.stringOp .add aft X).run Tryd.prog W = .ok (.string (aft ++ X)) W := fun W => run_string_add_sum W _ _ (by have h : aft.size = 6 := (by decide +kernel); omega)
  have ADD2 : ∀ W : World, (Op.stringOp .add ⟨#[97, 102, 116, 101, 114, 32]⟩ X).run Tryd.prog W = .ok (.string (aft ++ X)) W := ADD
  clear ADD
  rcases ny with ny | ny <;> rcases nm with nm | nm <;> {
    go_enter Tryd.func25, Tryd.ntmps25
    go_wp2_with fail
    refine (G.out _).mono ?_
    rintro e w0 ⟨rfl, hb⟩
    have B0 := Lib.hid (((Below.refl w.heap.size w).alloc (Nat.le_refl _) (.cells #[.int .i64 a, .int .i64 b] 23)).trans (hb.mono (by simp)))
    obtain ⟨c0, c1, _, _, z⟩ := keep2 hb
    have X0 : Hid (w0.cell? ⟨w.heap.size, 0, none⟩ = some (.int .i64 a) ∧ w0.cell? ⟨w.heap.size, 1, none⟩ = some (.int .i64 b)) := ⟨c0, c1⟩
    clear hb
    go_wp2_with fail
    refine (C1.out _).mono ?_
    rintro e w' ⟨rfl, rfl⟩
    go_wp2_with fail
    refine (C2.out _).mono ?_
    rintro e w' ⟨rfl, rfl⟩
    go_wp2_with fail
    refine (C3.out _).mono ?_
    rintro e w1 ⟨rfl, hb⟩
    have B1 := Lib.hid (B0.out.trans (hb.mono B0.out.size))
    have X1 := Lib.hid (far2 X0.out hb)
    clear hb c0 c1
    have X2 : Hid (∀ o, (w1.alloc o).cell? ⟨w.heap.size, 0, none⟩ = some (.int .i64 a) ∧ (w1.alloc o).cell? ⟨w.heap.size, 1, none⟩ = some (.int .i64 b)) := fun o => ⟨cell_new3 o X1.out.1, cell_new3 o X1.out.2⟩
    have X3 := Lib.hid (X2.out (.cells #[.int .i64 P, .int .i64 Q] 23))
    go_wp2_with fail
    go_region_held3 (fun v => v.cell? ⟨w.heap.size, 0, none⟩ = some (.int .i64 a) ∧ v.cell? ⟨w.heap.size, 1, none⟩ = some (.int .i64 b)) (first | exact X3.out | assumption)
      ((first
        | (go_at_call 40; refine (C4.out _).mono ?_; rintro e w2 ⟨rfl, hb⟩; have hs : w2.cell? ⟨w.heap.size, 0, none⟩ = some (.int .i64 a) ∧ w2.cell? ⟨w.heap.size, 1, none⟩ = some (.int .i64 b) := far3 hb X3.out)))
    have D := (below_dw (Below.refl _ (w1.alloc (.cells #[.int .i64 P, .int .i64 Q] 23)))).trans (show Below (w1.alloc (.cells #[.int .i64 P, .int .i64 Q] 23)).heap.size (w1.alloc (.cells #[.int .i64 P, .int .i64 Q] 23)).drew w2 from hb)
    have B2 := Lib.hid ((B1.out.alloc B1.out.size (.cells #[.int .i64 P, .int .i64 Q] 23)).trans (D.mono (by have := B1.out.size; simp; omega)))
    obtain ⟨z0, z1, _, _, _⟩ := keep2 D
    obtain ⟨x0, x1⟩ := hs
    clear D hb
    go_wp2_with fail
    refine (C5.out _).mono ?_
    rintro e w3 ⟨rfl, hb3⟩
    have B3 := Lib.hid (B2.out.trans (hb3.mono B2.out.size))
    go_wp2_with fail
    go_ret2
    exact ⟨rfl, B3.out⟩ }

end Go.Proofs.YtjpiaccpcmlfnaaDoor
