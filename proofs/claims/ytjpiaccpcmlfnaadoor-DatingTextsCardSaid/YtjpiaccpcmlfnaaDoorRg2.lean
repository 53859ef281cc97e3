/-
  The reference's Format. No statement of the seat is proved here.
-/
import Derived.Test.YtjpiaccpcmlfnaaDoorRf
import Derived.Deep.RegionHeld3
import Derived.BigQuiet
namespace Go.Proofs.YtjpiaccpcmlfnaaDoor
open Go.RowKit Cal
open Classical

set_option maxHeartbeats 4000000 in
theorem rfmt_pair (a b y m d u v P Q : Int) (S : ByteArray) (w : World)
    (g : ∀ w, Calls Tryd.prog 30 #[.agg #[.int .i64 a, .int .i64 b]] w fun e w' => e = .returned (.bool true) ∧ Below w.heap.size w w')
    (c1 : ∀ w, Calls Tryd.prog 37 #[.int .i64 a] w fun e w' => e = .returned (.tuple #[.string S, .int .i64 0]) ∧ w = w')
    (c2 : ∀ w, Calls Tryd.prog 38 #[.int .i64 a] w fun e w' => e = .returned (.tuple #[.int .i64 y, .int .i64 m, .int .i64 d, .int .i64 0]) ∧ w = w')
    (c3 : ∀ w, Calls Tryd.prog 39 #[.int .i64 y, .int .i64 m] w fun e w' => e = .returned (.tuple #[.agg #[.int .i64 P, .int .i64 Q], .bool true]) ∧ Below w.heap.size w w')
    (c4 : ∀ w, Calls Tryd.prog 40 #[.int .i64 y] w fun e w' => e = .returned (.agg #[.int .i64 u, .int .i64 v]) ∧ Below w.heap.size w w')
    (a0 : (a == 0) = false) (b9 : (b == 1048575) = false) (ny : (a == u) = false ∨ (b == v) = false) (nm : (a == P) = false ∨ (b == Q) = false) (eab : (a == b) = false) (X Y : ByteArray) (hX : X.size ≤ 10) (hY : Y.size ≤ 10)
    (c5 : ∀ w, Calls Tryd.prog 41 #[.int .i64 a] w fun e w' => e = .returned (.string X) ∧ w = w')
    (c6 : ∀ w, Calls Tryd.prog 42 #[.int .i64 b] w fun e w' => e = .returned (.string Y) ∧ Below w.heap.size w w') :
    Calls Tryd.prog 25 #[.agg #[.int .i64 a, .int .i64 b]] w fun e w' => e = .returned (.tuple #[.string (X ++ sl ++ Y), .int .i64 0]) ∧ Below w.heap.size w w' := by
  have G := Lib.hid g; have C1 := Lib.hid c1; have C2 := Lib.hid c2; have C3 := Lib.hid c3; have C4 := Lib.hid c4
  clear g c1 c2 c3 c4
  have C5 := Lib.hid c5; have C6 := Lib.hid c6
  clear c5 c6
  have hsl : sl.size = 1 := by decide +kernel
  have A1 : ∀ W : World, (Op.stringOp .add X ⟨#[47]⟩).run Tryd.prog W = .ok (.string (X ++ sl)) W := fun W => run_string_add_sum W X sl (by omega)
  have A2 : ∀ W : World, (Op.stringOp .add (X ++ sl) Y).run Tryd.prog W = .ok (.string (X ++ sl ++ Y)) W := fun W => run_string_add_sum W _ _ (by rw [ByteArray.size_append]; omega)
  obtain ⟨Z, hZ⟩ : ∃ Z, Z = X ++ sl := ⟨_, rfl⟩
  rw [← hZ] at A1 A2 ⊢
  obtain ⟨V, hV⟩ : ∃ V, V = Z ++ Y := ⟨_, rfl⟩
  rw [← hV] at A2 ⊢
  clear hZ hV hsl
  rcases ny with ny | ny <;> rcases nm with nm | nm <;> {
    go_enter Tryd.func25, Tryd.ntmps25
    go_wp2_with fail
    refine (G.out _).mono ?_
    rintro e w0 ⟨rfl, hb⟩
    have B0 := Lib.hid (((Below.refl w.heap.size w).alloc (Nat.le_refl _) (.cells #[.int .i64 a, .int .i64 b] 23)).trans (hb.mono (by simp)))
    obtain ⟨c0, c1, _, _, z⟩ := keep2 hb
    have X0 : Hid (w0.cell? ⟨w.heap.size, 0, none⟩ = some (.int .i64 a) ∧ w0.cell? ⟨w.heap.size, 1, none⟩ = some (.int .i64 b)) := ⟨c0, c1⟩
    clear hb
    go_wp2_with fail
    refine (C1.out _).mono ?_
    rintro e w' ⟨rfl, rfl⟩
    go_wp2_with fail
    refine (C2.out _).mono ?_
    rintro e w' ⟨rfl, rfl⟩
    go_wp2_with fail
    refine (C3.out _).mono ?_
    rintro e w1 ⟨rfl, hb⟩
    have B1 := Lib.hid (B0.out.trans (hb.mono B0.out.size))
    have X1 := Lib.hid (far2 X0.out hb)
    clear hb c0 c1
    have X2 : Hid (∀ o, (w1.alloc o).cell? ⟨w.heap.size, 0, none⟩ = some (.int .i64 a) ∧ (w1.alloc o).cell? ⟨w.heap.size, 1, none⟩ = some (.int .i64 b)) := fun o => ⟨cell_new3 o X1.out.1, cell_new3 o X1.out.2⟩
    have X3 := Lib.hid (X2.out (.cells #[.int .i64 P, .int .i64 Q] 23))
    go_wp2_with fail
    go_region_held3 (fun v => v.cell? ⟨w.heap.size, 0, none⟩ = some (.int .i64 a) ∧ v.cell? ⟨w.heap.size, 1, none⟩ = some (.int .i64 b)) (first | exact X3.out | assumption)
      ((first
        | (go_at_call 40; refine (C4.out _).mono ?_; rintro e w2 ⟨rfl, hb⟩; have hs : w2.cell? ⟨w.heap.size, 0, none⟩ = some (.int .i64 a) ∧ w2.cell? ⟨w.heap.size, 1, none⟩ = some (.int .i64 b) := far3 hb X3.out)))
    have D := (below_dw (Below.refl _ (w1.alloc (.cells #[.int .i64 P, .int .i64 Q] 23)))).trans (show Below (w1.alloc (.cells #[.int .i64 P, .int .i64 Q] 23)).heap.size (w1.alloc (.cells #[.int .i64 P, .int .i64 Q] 23)).drew w2 from hb)
    have B2 := Lib.hid ((B1.out.alloc B1.out.size (.cells #[.int .i64 P, .int .i64 Q] 23)).trans (D.mono (by have := B1.out.size; simp; omega)))
    obtain ⟨z0, z1, _, _, _⟩ := keep2 D
    obtain ⟨x0, x1⟩ := hs
    clear D hb
    have XX : Hid (w2.cell? ⟨w.heap.size, 0, none⟩ = some (.int .i64 a) ∧ w2.cell? ⟨w.heap.size, 1, none⟩ = some (.int .i64 b)) := ⟨x0, x1⟩
    go_wp2_with fail
    go_region_held3 (fun v => v.cell? ⟨w.heap.size, 0, none⟩ = some (.int .i64 a) ∧ v.cell? ⟨w.heap.size, 1, none⟩ = some (.int .i64 b)) (first | exact XX.out | assumption)
      ((first
        | (go_at_call 41; refine (C5.out _).mono ?_; rintro e w3 ⟨rfl, rfl⟩)
        | (go_at_call 42; refine (C6.out _).mono ?_; rintro e w3 ⟨rfl, hb3⟩; have hs : w3.cell? ⟨w.heap.size, 0, none⟩ = some (.int .i64 a) ∧ w3.cell? ⟨w.heap.size, 1, none⟩ = some (.int .i64 b) := far3 hb3 XX.out)))
    have B3 := Lib.hid (B2.out.trans (((below_dw (Below.refl _ w2)).trans (show Below w2.heap.size w2.drew w3 from hb3)).mono B2.out.size))
    go_wp2_with fail
    go_ret2
    exact ⟨rfl, B3.out⟩ }

theorem refFormat_bad (a b : Int) (w : World) (h : ¬ okD a b) :
    Calls Tryd.prog 25 #[.agg #[.int .i64 a, .int .i64 b]] w fun e w' => e = .returned (.tuple #[.string { data := #[] }, .int .i64 1]) ∧ Below w.heap.size w w' := by
  have G := Lib.hid (fun w => refGood_any a b w)
  rw [decide_eq_false h] at G
  clear h
  go_enter Tryd.func25, Tryd.ntmps25
  go_wp2_with fail
  refine (G.out _).mono ?_
  rintro e w0 ⟨rfl, hb⟩
  have B0 := Lib.hid (((Below.refl w.heap.size w).alloc (Nat.le_refl _) (.cells #[.int .i64 a, .int .i64 b] 23)).trans (hb.mono (by simp)))
  clear hb
  go_wp2_with fail
  go_ret2
  exact ⟨rfl, B0.out⟩
theorem refFormat_unk (w : World) :
    Calls Tryd.prog 25 #[.agg #[.int .i64 0, .int .i64 1048575]] w fun e w' => e = .returned (.tuple #[.string unk, .int .i64 0]) ∧ Below w.heap.size w w' := by
  have G := Lib.hid (fun w => refGood_any 0 1048575 w)
  rw [decide_eq_true (show okD 0 1048575 from ⟨by omega, by omega, by omega⟩)] at G
  go_enter Tryd.func25, Tryd.ntmps25
  go_wp2_with fail
  refine (G.out _).mono ?_
  rintro e w0 ⟨rfl, hb⟩
  have B0 := Lib.hid (((Below.refl w.heap.size w).alloc (Nat.le_refl _) (.cells #[.int .i64 0, .int .i64 1048575] 23)).trans (hb.mono (by simp)))
  obtain ⟨c0, c1, _, _, z⟩ := keep2 hb
  clear hb
  go_wp2_with fail
  go_ret2
  exact ⟨rfl, B0.out⟩

theorem refFormat_ok (a b : Int) (w : World) (h : okD a b) :
    Calls Tryd.prog 25 #[.agg #[.int .i64 a, .int .i64 b]] w fun e w' => e = .returned (.tuple #[.string (fmtS a b), .int .i64 0]) ∧ Below w.heap.size w w' := by
  by_cases hu : a = 0 ∧ b = 1048575
  · obtain ⟨rfl, rfl⟩ := hu
    unfold fmtS
    rw [if_pos ⟨rfl, rfl⟩]
    exact refFormat_unk w
  obtain ⟨h1, h2, h3⟩ := h
  obtain ⟨y, m, d, hd⟩ := date_exists a h1 (by omega)
  obtain ⟨_, p1, p2⟩ := per_year hd (by omega)
  obtain ⟨_, q1, q2⟩ := per_month hd (by omega)
  obtain ⟨_, r1, r2⟩ := per_day hd (by omega)
  obtain ⟨mf, mq, _, _⟩ := month_first hd (by omega)
  obtain ⟨yf, yq, _⟩ := year_first hd (by omega)
  have ov : ofV y m 1 = a - d + 1 := by rw [← mq]; exact (of_zero mf).1.2.symm
  have oy : ofV y 1 1 = ys y := by rw [← yq]; exact (of_zero yf).1.2.symm
  have g : ∀ w, Calls Tryd.prog 30 #[.agg #[.int .i64 a, .int .i64 b]] w fun e w' => e = .returned (.bool true) ∧ Below w.heap.size w w' := by
    intro w
    have := refGood_any a b w
    rw [decide_eq_true (show okD a b from ⟨h1, h2, h3⟩)] at this
    exact this
  have c1 := fun w => refFormat_is a y m d w h1 (by omega) hd
  have c2 := fun w => refDate_is a y m d w h1 (by omega) hd
  have c3 := fun w => refMonth_yes y m w mf
  have c4 := fun w => refYear_is y w hd.1.1 hd.1.2.1
  rw [ov, show a - d + 1 + len y m - 1 = a - d + len y m by omega] at c3
  rw [oy] at c4
  have tz := txt_size y m d
  have t10 := txt_10 y m d
  have eS := dayS_is hd
  rw [← eS] at p1 p2 q1 q2 r1 r2 c1 tz t10
  have ne : (a == 0) = false ∨ (b == 1048575) = false := by
    by_cases k : a = 0
    · exact .inr (bool_ne (fun k2 => hu ⟨k, k2⟩))
    · exact .inl (bool_ne k)
  have nb : ∀ {u v : Int}, ¬ (u = a ∧ v = b) → (a == u) = false ∨ (b == v) = false := by
    intro u v k
    by_cases k1 : a = u
    · exact .inr (bool_ne (fun k2 => k ⟨k1.symm, k2.symm⟩))
    · exact .inl (bool_ne k1)
  unfold fmtS
  rw [if_neg hu]
  by_cases e1 : ys y = a ∧ lastV y 12 31 = b
  · have J : jusB (dayS a) a b = true := by unfold jusB; rw [if_pos (by rw [p1, p2]; exact e1)]
    have K : jusS (dayS a) a b = (dayS a).extract 0 4 := by unfold jusS; rw [if_pos (by rw [p1, p2]; exact e1)]
    rw [if_pos J, K]
    exact rfmt_year a b y m d _ _ _ _ _ w g c1 c2 c3 c4 (by omega) ne (bool_eq e1.1.symm) (bool_eq e1.2.symm)
  have n1 : ¬ (perF ((dayS a).extract 0 4) = a ∧ perL ((dayS a).extract 0 4) = b) := by rw [p1, p2]; exact e1
  by_cases e2 : a - d + 1 = a ∧ mn (a - d + len y m) 1048575 = b
  · have J : jusB (dayS a) a b = true := by unfold jusB; rw [if_neg n1, if_pos (by rw [q1, q2]; exact e2)]
    have K : jusS (dayS a) a b = (dayS a).extract 0 7 := by unfold jusS; rw [if_neg n1, if_pos (by rw [q1, q2]; exact e2)]
    rw [if_pos J, K]
    exact rfmt_month a b y m d _ _ _ _ _ w g c1 c2 c3 c4 (by omega) ne (nb e1) (bool_eq e2.1.symm) (bool_eq e2.2.symm)
  have n2 : ¬ (perF ((dayS a).extract 0 7) = a ∧ perL ((dayS a).extract 0 7) = b) := by rw [q1, q2]; exact e2
  by_cases e3 : a = b
  · have n3 : perF ((dayS a).extract 0 10) = a ∧ perL ((dayS a).extract 0 10) = b := by rw [r1, r2]; exact ⟨rfl, e3⟩
    have J : jusB (dayS a) a b = true := by unfold jusB; rw [if_neg n1, if_neg n2, if_pos n3]
    have K : jusS (dayS a) a b = dayS a := by unfold jusS; rw [if_neg n1, if_neg n2, if_pos n3, t10]
    rw [if_pos J, K]
    exact rfmt_day a b y m d _ _ _ _ _ w g c1 c2 c3 c4 ne (nb e1) (nb e2) (bool_eq e3)
  have n3 : ¬ (perF ((dayS a).extract 0 10) = a ∧ perL ((dayS a).extract 0 10) = b) := by rw [r1, r2]; exact fun k => e3 k.2
  have J : ¬ jusB (dayS a) a b = true := by unfold jusB; rw [if_neg n1, if_neg n2, if_neg n3]; exact Bool.false_ne_true
  rw [if_neg J]
  have beg : ∀ n, 0 ≤ n → n ≤ 1048575 → ∀ w, Calls Tryd.prog 41 #[.int .i64 n] w fun e w' => e = .returned (.string (begS (dayS n) n)) ∧ w = w' := fun n a1 a2 w => by
    obtain ⟨y', m', d', hd'⟩ := date_exists n a1 a2
    exact refBegins_is n y' m' d' w a1 a2 hd'
  have en : ∀ n, 0 ≤ n → n ≤ 1048575 → ∀ w, Calls Tryd.prog 42 #[.int .i64 n] w fun e w' => e = .returned (.string (endS (dayS n) n)) ∧ Below w.heap.size w w' := fun n a1 a2 w => by
    obtain ⟨y', m', d', hd'⟩ := date_exists n a1 a2
    exact refEnds_is n y' m' d' w a1 a2 hd'
  by_cases a0 : a = 0
  · rw [if_pos a0]
    have b9 : b ≠ 1048575 := fun k => hu ⟨a0, k⟩
    exact rfmt_bef a b y m d _ _ _ _ _ w g c1 c2 c3 c4 (bool_eq a0) (bool_ne b9) (nb e1) (nb e2) (bool_ne e3) (by omega) (by omega) _ (begS_size _ _) (beg (b + 1) (by omega) (by omega))
  rw [if_neg a0]
  by_cases b9 : b = 1048575
  · rw [if_pos b9]
    exact rfmt_aft a b y m d _ _ _ _ _ w g c1 c2 c3 c4 (bool_ne a0) (bool_eq b9) (nb e1) (nb e2) (bool_ne e3) (by omega) (by omega) _ (endS_size _ _) (en (a - 1) (by omega) (by omega))
  rw [if_neg b9]
  exact rfmt_pair a b y m d _ _ _ _ _ w g c1 c2 c3 c4 (bool_ne a0) (bool_ne b9) (nb e1) (nb e2) (bool_ne e3) _ _ (begS_size _ _) (endS_size _ _) (beg a (by omega) (by omega)) (en b (by omega) (by omega))

end Go.Proofs.YtjpiaccpcmlfnaaDoor
