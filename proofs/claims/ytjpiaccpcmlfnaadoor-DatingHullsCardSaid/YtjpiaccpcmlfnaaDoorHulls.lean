/-
  PROVED HERE: the law archivumlaw03.DatingHulls answers true for every list of datings and day: each dating of a list is contained in its hull, whose ends are ends of datings of the list; what two datings have in common is contained in both, and nothing else is in both. Condition: the package variable archivum/day.lengths holds what the program's text lays in it (the card ties that). Every input is spoken of (of more than 40 datings the law itself asks nothing).
-/
import Derived.Test.YtjpiaccpcmlfnaaDoorJoins
import Derived.Test.YtjpiaccpcmlfnaaDoorSound
import Derived.BigQuiet
import Derived.BigRegion
import Derived.Deep.CutRange
namespace Go.Proofs.YtjpiaccpcmlfnaaDoor
open Go.ChangeShapes Go.WideShapes Go.ChangeAt Go.RowKit Go.Joins Cal

/-- Some end among the first k is x. -/
def anyB (F : Nat → Int) (x : Int) : Nat → Bool
  | 0 => false
  | k + 1 => anyB F x k || (F k == x)

theorem hF_le (F : Nat → Int) : ∀ n k : Nat, k < n → hF F n ≤ F k := by
  intro n
  induction n with
  | zero => intro k hk; omega
  | succ n ih =>
    intro k hk
    have h1 : hF F (n + 1) = mn (hF F n) (F n) := rfl
    rw [h1]
    rcases (show k < n ∨ k = n by omega) with h | h
    · have := ih k h
      unfold mn; split <;> omega
    · subst h; unfold mn; split <;> omega
theorem hL_ge (L : Nat → Int) : ∀ n k : Nat, k < n → L k ≤ hL L n := by
  intro n
  induction n with
  | zero => intro k hk; omega
  | succ n ih =>
    intro k hk
    have h1 : hL L (n + 1) = mx (hL L n) (L n) := rfl
    rw [h1]
    rcases (show k < n ∨ k = n by omega) with h | h
    · have := ih k h
      unfold mx; split <;> omega
    · subst h; unfold mx; split <;> omega
theorem anyB_mem (F : Nat → Int) (x : Int) : ∀ n k : Nat, k < n → F k = x → anyB F x n = true := by
  intro n
  induction n with
  | zero => intro k hk; omega
  | succ n ih =>
    intro k hk h
    show (anyB F x n || (F n == x)) = true
    rcases (show k < n ∨ k = n by omega) with g | g
    · rw [ih k g h]; rfl
    · subst g; rw [h]; simp
theorem hF_mem (F : Nat → Int) : ∀ n : Nat, 0 < n → ∃ k, k < n ∧ F k = hF F n := by
  intro n
  induction n with
  | zero => intro h; omega
  | succ n ih =>
    intro _
    have h1 : hF F (n + 1) = mn (hF F n) (F n) := rfl
    by_cases h : F n < hF F n
    · exact ⟨n, by omega, by rw [h1, mn_y h]⟩
    · rw [h1, mn_n h]
      rcases (show n = 0 ∨ 0 < n by omega) with g | g
      · subst g; exact ⟨0, by omega, rfl⟩
      · obtain ⟨k, k1, k2⟩ := ih g
        exact ⟨k, by omega, k2⟩
theorem hL_mem (L : Nat → Int) : ∀ n : Nat, 0 < n → ∃ k, k < n ∧ L k = hL L n := by
  intro n
  induction n with
  | zero => intro h; omega
  | succ n ih =>
    intro _
    have h1 : hL L (n + 1) = mx (hL L n) (L n) := rfl
    by_cases h : hL L n < L n
    · exact ⟨n, by omega, by rw [h1, mx_y h]⟩
    · rw [h1, mx_n h]
      rcases (show n = 0 ∨ 0 < n by omega) with g | g
      · subst g; exact ⟨0, by omega, rfl⟩
      · obtain ⟨k, k1, k2⟩ := ih g
        exact ⟨k, by omega, k2⟩

/-- Two cells that lie side by side. -/
def Two (w : World) (b o : Nat) (x y : Int) : Prop := w.cell? ⟨b, o, none⟩ = some (.int .i64 x) ∧ w.cell? ⟨b, o + 1, none⟩ = some (.int .i64 y)
theorem Two.lt {w : World} {b o : Nat} {x y : Int} (h : Two w b o x y) : b < w.heap.size := World.block_lt_of_cell? w _ h.1
theorem Two.next {w w' : World} {b o : Nat} {x y : Int} (h : Two w b o x y) (hb : Below w.heap.size w w') : Two w' b o x y := ⟨(hb.cell (p := ⟨b, o, none⟩) h.lt).trans h.1, (hb.cell (p := ⟨b, o + 1, none⟩) h.lt).trans h.2⟩
theorem Two.alloc {w : World} {b o : Nat} {x y : Int} (h : Two w b o x y) (ob : Obj) : Two (w.alloc ob) b o x y := h.next ((Below.refl _ _).alloc (Nat.le_refl _) ob)
theorem Two.drewN {w : World} {b o : Nat} {x y : Int} (h : Two w b o x y) (n : Nat) : Two (w.drewN n) b o x y := h
theorem Two.drew {w : World} {b o : Nat} {x y : Int} (h : Two w b o x y) : Two w.drew b o x y := h
theorem Two.other2 {w : World} {b o c : Nat} {x y : Int} (h : Two w b o x y) (hc : c ≠ b) (u v : Value) : Two ((w.setCell ⟨c, 0, none⟩ u).setCell ⟨c, 1, none⟩ v) b o x y := by
  refine ⟨?_, ?_⟩
  · rw [World.cell?_setCell_other _ _ _ _ (fun k => hc (congrArg Addr.block k)), World.cell?_setCell_other _ _ _ _ (fun k => hc (congrArg Addr.block k)), h.1]
  · rw [World.cell?_setCell_other _ _ _ _ (fun k => hc (congrArg Addr.block k)), World.cell?_setCell_other _ _ _ _ (fun k => hc (congrArg Addr.block k)), h.2]
theorem Box.drew {w : World} {k : Nat} {a b : Int} (h : Box w k a b) : Box w.drew k a b := h

/-- The ways in which a day lies to two datings, and what they have in common. -/
theorem meet_ways {a b c e : Int} (h : okD a b) (g : okD c e) (d x y : Int) (M : Bool) (hx : x = meetF a b c e) (hy : y = meetL a b c e) (hM : M = meetB a b c e) :
    (a ≤ d ∧ d ≤ b ∧ c ≤ d ∧ d ≤ e ∧ M = true ∧ x ≤ d ∧ d ≤ y) ∨
    ((d < a ∨ (a ≤ d ∧ b < d) ∨ (a ≤ d ∧ d ≤ b ∧ d < c) ∨ (a ≤ d ∧ d ≤ b ∧ c ≤ d ∧ e < d)) ∧ (M = false ∨ (M = true ∧ (d < x ∨ (x ≤ d ∧ y < d))))) := by
  by_cases k : mx a c ≤ mn b e
  · have q : okD a b ∧ okD c e ∧ mx a c ≤ mn b e := ⟨h, g, k⟩
    have e1 : x = mx a c := hx.trans (if_pos q)
    have e2 : y = mn b e := hy.trans (if_pos q)
    have e3 : M = true := hM.trans (decide_eq_true q)
    have a1 : a ≤ mx a c ∧ c ≤ mx a c ∧ (mx a c = a ∨ mx a c = c) := by unfold mx; split <;> omega
    have a2 : mn b e ≤ b ∧ mn b e ≤ e ∧ (mn b e = b ∨ mn b e = e) := by unfold mn; split <;> omega
    rw [e1, e2, e3]
    by_cases z : a ≤ d ∧ d ≤ b ∧ c ≤ d ∧ d ≤ e
    · exact Or.inl ⟨z.1, z.2.1, z.2.2.1, z.2.2.2, rfl, by omega, by omega⟩
    · exact Or.inr ⟨by omega, Or.inr ⟨rfl, by omega⟩⟩
  · have q : ¬ (okD a b ∧ okD c e ∧ mx a c ≤ mn b e) := fun q => k q.2.2
    have e3 : M = false := hM.trans (decide_eq_false q)
    have a1 : mx a c = a ∨ mx a c = c := by unfold mx; split <;> omega
    have a2 : mn b e = b ∨ mn b e = e := by unfold mn; split <;> omega
    exact Or.inr ⟨by omega, Or.inl e3⟩
theorem meet_self {a b : Int} (h : okD a b) (x y : Int) (M : Bool) (hx : x = meetF a b a b) (hy : y = meetL a b a b) (hM : M = meetB a b a b) : M = true ∧ x = a ∧ y = b := by
  have e1 : mx a a = a := mx_n (by omega)
  have e2 : mn b b = b := mn_n (by omega)
  have q : okD a b ∧ okD a b ∧ mx a a ≤ mn b b := ⟨h, h, by omega⟩
  exact ⟨hM.trans (decide_eq_true q), (hx.trans (if_pos q)).trans e1, (hy.trans (if_pos q)).trans e2⟩

/-- What Hull answers to any list. -/
theorem hull_any (p : Option Addr) (n cap : Nat) (F L : Nat → Int) : ∃ A B E : Int,
    (∀ w, DatsAt w p n F L → Calls Tryd.prog 22 #[.slice p n cap] w fun e w' => e = .returned (.tuple #[.agg #[.int .i64 A, .int .i64 B], .int .i64 E]) ∧ Below w.heap.size w w') ∧
    ((E ≠ 0 ∧ A = 0 ∧ B = 0) ∨ (E = 0 ∧ 0 < n ∧ A = hF F n ∧ B = hL L n ∧ ∀ i, i < n → okD (F i) (L i))) := by
  by_cases h0 : n = 0
  · subst h0
    exact ⟨0, 0, 9, fun w _ => Hull_empty p cap w, Or.inl (by omega)⟩
  by_cases h1 : 1024 < (n : Int)
  · exact ⟨0, 0, 8, fun w _ => Hull_large p n cap w h1, Or.inl (by omega)⟩
  obtain ⟨m, m1, m2, m3⟩ := first_bad (fun i => okD (F i) (L i)) n
  rcases (show m = n ∨ m < n by omega) with h | h
  · refine ⟨hF F n, hL L n, 0, fun w hd => ?_, Or.inr ⟨rfl, by omega, rfl, rfl, h ▸ m2⟩⟩
    rcases hd with hd | ⟨blk, off, rfl, hc⟩
    · omega
    · exact Hull_loop blk off n cap m F L w (by omega) (by omega) m1 hc m2 m3 _ _ 0 (Or.inl ⟨h, rfl, rfl, rfl⟩)
  · refine ⟨0, 0, 1, fun w hd => ?_, Or.inl (by omega)⟩
    rcases hd with hd | ⟨blk, off, rfl, hc⟩
    · omega
    · exact Hull_loop blk off n cap m F L w (by omega) (by omega) m1 hc m2 m3 _ _ 1 (Or.inr ⟨h, rfl, rfl, rfl⟩)

set_option maxRecDepth 100000 in
set_option maxHeartbeats 8000000 in
theorem hulls_long (d A B E : Int) (p : Option Addr) (n cap : Nat) (F L : Nat → Int) (w : World) (hT : Table w) (hD : DatsAt w p n F L) (hn : 40 < (n : Int))
    (C : ∀ w, DatsAt w p n F L → Calls Tryd.prog 22 #[.slice p n cap] w fun e w' => e = .returned (.tuple #[.agg #[.int .i64 A, .int .i64 B], .int .i64 E]) ∧ Below w.heap.size w w') :
    Calls Tryd.prog 9 #[.slice p n cap, .int .i64 d] w fun e w' => e = .returned (.bool true) ∧ Below w.heap.size w w' := by
  have HT := Lib.hid hT
  have HD := Lib.hid hD
  have hlt := hT.lt
  have D := Lib.hid C
  clear hT hD C
  go_enter Tryd.func9, Tryd.ntmps9
  go_wp2_with fail
  refine (awake_true _ HT.out).mono ?_
  rintro e w1 ⟨rfl, hb⟩
  have B1 := Lib.hid hb
  have G1 := Lib.hid (HD.out.below hb)
  clear hb
  go_wp2_with fail
  refine (D.out _ G1.out).mono ?_
  rintro e v1 ⟨rfl, hb0⟩
  have z := hb0.size
  have B2 : Hid (Below w.heap.size w v1) := B1.out.trans (hb0.mono B1.out.size)
  have z2 := B2.out.size
  clear hb0
  go_wp2
  go_ret
  exact ⟨rfl, B2.out.alloc z2 _⟩

set_option maxRecDepth 100000 in
set_option maxHeartbeats 8000000 in
theorem hulls_err (d E : Int) (p : Option Addr) (n cap : Nat) (F L : Nat → Int) (w : World) (hT : Table w) (hD : DatsAt w p n F L) (hn : (n : Int) ≤ 40) (hE : E ≠ 0)
    (C : ∀ w, DatsAt w p n F L → Calls Tryd.prog 22 #[.slice p n cap] w fun e w' => e = .returned (.tuple #[.agg #[.int .i64 0, .int .i64 0], .int .i64 E]) ∧ Below w.heap.size w w') :
    Calls Tryd.prog 9 #[.slice p n cap, .int .i64 d] w fun e w' => e = .returned (.bool true) ∧ Below w.heap.size w w' := by
  have HT := Lib.hid hT
  have HD := Lib.hid hD
  have hlt := hT.lt
  have D := Lib.hid C
  clear hT hD C
  have e : (E != 0) = true := by simpa using hE
  clear hE
  go_enter Tryd.func9, Tryd.ntmps9
  go_wp2_with fail
  refine (awake_true _ HT.out).mono ?_
  rintro e w1 ⟨rfl, hb⟩
  have B1 := Lib.hid hb
  have G1 := Lib.hid (HD.out.below hb)
  clear hb
  go_wp2_with fail
  refine (D.out _ G1.out).mono ?_
  rintro e v1 ⟨rfl, hb0⟩
  have z := hb0.size
  have B2 : Hid (Below w.heap.size w v1) := B1.out.trans (hb0.mono B1.out.size)
  have z2 := B2.out.size
  clear hb0
  go_wp2
  go_ret
  exact ⟨rfl, B2.out.alloc z2 _⟩

set_option maxRecDepth 100000 in
set_option maxHeartbeats 8000000 in
theorem hulls_good (d A B : Int) (blk off n cap : Nat) (F L : Nat → Int) (w : World) (hT : Table w) (hc : ∀ i : Nat, i < n → w.cell? ⟨blk, off + i * 2, none⟩ = some (.int .i64 (F i)) ∧ w.cell? ⟨blk, off + i * 2 + 1, none⟩ = some (.int .i64 (L i))) (hn0 : 0 < (n : Int)) (hn : (n : Int) ≤ 40)
    (hA : A = hF F n) (hB : B = hL L n) (hv : ∀ i, i < n → okD (F i) (L i))
    (C : ∀ w, DatsAt w (some ⟨blk, off, none⟩) n F L → Calls Tryd.prog 22 #[.slice (some ⟨blk, off, none⟩) n cap] w fun e w' => e = .returned (.tuple #[.agg #[.int .i64 A, .int .i64 B], .int .i64 0]) ∧ Below w.heap.size w w') :
    Calls Tryd.prog 9 #[.slice (some ⟨blk, off, none⟩) n cap, .int .i64 d] w fun e w' => e = .returned (.bool true) ∧ Below w.heap.size w w' := by
  have hD : DatsAt w (some ⟨blk, off, none⟩) n F L := Or.inr ⟨blk, off, rfl, hc⟩
  have HC := Lib.hid hc; have HA := Lib.hid hA; have HB := Lib.hid hB; have HV := Lib.hid hv
  have hbl : blk < w.heap.size := World.block_lt_of_cell? w _ (hc 0 (by omega)).1
  clear hc hA hB hv
  have HT := Lib.hid hT
  have HD := Lib.hid hD
  have hlt := hT.lt
  have D := Lib.hid C
  clear hT hD C
  go_enter Tryd.func9, Tryd.ntmps9
  go_wp2_with fail
  refine (awake_true _ HT.out).mono ?_
  rintro e w1 ⟨rfl, hb⟩
  have B1 := Lib.hid hb
  have G1 := Lib.hid (HD.out.below hb)
  clear hb
  go_wp2_with fail
  refine (D.out _ G1.out).mono ?_
  rintro e v1 ⟨rfl, hb0⟩
  have z := hb0.size
  have B2 : Hid (Below w.heap.size w v1) := B1.out.trans (hb0.mono B1.out.size)
  have z2 := B2.out.size
  obtain ⟨w2, hw2⟩ : ∃ V : World, v1.alloc (.cells #[.int .i64 A, .int .i64 B] 23) = V := ⟨_, rfl⟩
  have B3 : Hid (Below w.heap.size w w2) := by rw [← hw2]; exact B2.out.alloc z2 _
  have X3 : Hid (Box w2 v1.heap.size A B) := by rw [← hw2]; exact Box.new v1 A B
  clear hb0 z
  go_wp2_with fail
  try rw [hw2]
  clear hw2
  go_loopw [7, 8, 38] (fun f l i wr => ∃ k : Nat, k ≤ n ∧ i = .int .i64 k ∧ f = .bool (anyB F A k) ∧ l = .bool (anyB L B k) ∧ Below w.heap.size w wr ∧ Box wr v1.heap.size A B) (fun _ _ i _ => n - (intOf i).toNat)
  case atStart => exact ⟨0, Nat.zero_le _, rfl, rfl, rfl, B3.out, X3.out⟩
  case round =>
    obtain ⟨k, hk, rfl, rfl, rfl, hb, hX⟩ := hrel
    have a0 := hX.c0; have a1 := hX.c1
    have z3 := hX.lt
    have NB := Lib.hid hb; have NX := Lib.hid hX
    by_cases hkn : k < n
    · have q0 := (hb.cell (p := ⟨blk, off + k * 2, none⟩) hbl).trans (HC.out k hkn).1
      have q1 := (hb.cell (p := ⟨blk, off + k * 2 + 1, none⟩) hbl).trans (HC.out k hkn).2
      have l0 := (hb.cell (p := ⟨blk, off, none⟩) hbl).trans (HC.out 0 (by omega)).1
      have l1 := (hb.cell (p := ⟨blk, off + 1, none⟩) hbl).trans (HC.out 0 (by omega)).2
      have hkd : decide ((k : Int) < (n : Int)) = true := by simp; omega
      have g1 : A ≤ F k := by rw [HA.out]; exact hF_le F n k hkn
      have g2 : L k ≤ B := by rw [HB.out]; exact hL_ge L n k hkn
      have zb : blk < wr.heap.size := World.block_lt_of_cell? wr _ q0
      clear hb hX
      go_wp2_with fail
      have AF1 : anyB F A (k + 1) = (anyB F A k || (F k == A)) := rfl
      have AL1 : anyB L B (k + 1) = (anyB L B k || (L k == B)) := rfl
      have HF1 := Lib.hid AF1; have HL1 := Lib.hid AL1
      clear AF1 AL1
      obtain ⟨fk, hfk⟩ : ∃ x, x = anyB F A (k + 1) := ⟨_, rfl⟩
      obtain ⟨lk, hlk⟩ : ∃ x, x = anyB L B (k + 1) := ⟨_, rfl⟩
      have FK := Lib.hid hfk; have LK := Lib.hid hlk
      rw [← hfk] at HF1
      rw [← hlk] at HL1
      clear hfk hlk
      have YW : Hid (Box (wr.alloc (.cells #[.int .i64 (F k), .int .i64 (L k)] 23)) wr.heap.size (F k) (L k)) := Box.new wr (F k) (L k)
      have XW : Hid (Box (wr.alloc (.cells #[.int .i64 (F k), .int .i64 (L k)] 23)) v1.heap.size A B) := NX.out.alloc _
      have LW : Hid (Two (wr.alloc (.cells #[.int .i64 (F k), .int .i64 (L k)] 23)) blk off (F 0) (L 0)) := Two.alloc (w := wr) ⟨l0, l1⟩ _
      have BW : Hid (Below w.heap.size w (wr.alloc (.cells #[.int .i64 (F k), .int .i64 (L k)] 23))) := NB.out.alloc NB.out.size _
      go_cut [7, 8, 38] from 38 to 133 (fun f l c wx => f = .bool fk ∧ l = .bool lk ∧ c = .int .i64 k ∧ Box wx wr.heap.size (F k) (L k) ∧ Box wx v1.heap.size A B ∧ Two wx blk off (F 0) (L 0) ∧ Below w.heap.size w wx)
      case first =>
        obtain ⟨bf, hbf⟩ : ∃ x, x = anyB F A k := ⟨_, rfl⟩
        obtain ⟨bl, hbl'⟩ : ∃ x, x = anyB L B k := ⟨_, rfl⟩
        rw [← hbf] at HF1
        rw [← hbl'] at HL1
        rw [← hbf, ← hbl']
        clear hbf hbl'
        cases bf <;> cases bl
        all_goals
          go_quiet (fail)
          go_wp2_with fail
          go_meet
          refine ⟨?_, ?_, rfl, YW.out.drewN nq, XW.out.drewN nq, LW.out.drewN nq, below_drewN BW.out nq⟩
          · rw [HF1.out]; rfl
          · rw [HL1.out]; rfl
      case rest =>
        obtain ⟨rfl, rfl, rfl, hY, hX, hL, hB⟩ := hcut
        obtain ⟨u, hu⟩ : ∃ V : World, V = wc := ⟨_, rfl⟩
        rw [← hu] at hY hX hL hB
        rw [← hu]
        clear hu
        have YU := Lib.hid hY; have XU := Lib.hid hX; have LU := Lib.hid hL; have BU := Lib.hid hB
        clear hY hX hL hB YW XW LW BW a0 a1 l0 l1 q0 q1
        have y0 := YU.out.c0; have y1 := YU.out.c1
        have l0 := LU.out.1; have l1 := LU.out.2
        have zy := YU.out.lt
        have hnd : decide ((0 : Int) < (n : Int)) = true := by simp; omega
        have hnn : 0 < n := by omega
        have zl := LU.out.lt
        have n1 : u.heap.size ≠ wr.heap.size := by omega
        have n2 : u.heap.size ≠ blk := by omega
        have NN : Hid (u.heap.size ≠ wr.heap.size ∧ u.heap.size ≠ blk) := ⟨n1, n2⟩
        clear n1 n2
        have XN : Hid (u.heap.size ≠ v1.heap.size) := by have := XU.out.lt; show u.heap.size ≠ v1.heap.size; omega
        have ZW : Hid (w.heap.size ≤ u.heap.size) := BU.out.size
        obtain ⟨x, hx⟩ : ∃ x, x = meetF (F k) (L k) (F 0) (L 0) := ⟨_, rfl⟩
        obtain ⟨y, hy⟩ : ∃ x, x = meetL (F k) (L k) (F 0) (L 0) := ⟨_, rfl⟩
        obtain ⟨M, hM⟩ : ∃ x, x = meetB (F k) (L k) (F 0) (L 0) := ⟨_, rfl⟩
        have HXX := Lib.hid hx; have HYY := Lib.hid hy; have HMM := Lib.hid hM
        clear hx hy hM
        go_wp2_with fail
        go_cut [11, 12, 38] from 38 to 133 (fun z o c wx => ∃ zb : Nat, z = .pointer (some ⟨zb, 0, none⟩) ∧ o = .bool M ∧ c = .int .i64 k ∧ Box wx zb x y ∧ Box wx wr.heap.size (F k) (L k) ∧ Box wx v1.heap.size A B ∧ Two wx blk off (F 0) (L 0) ∧ Below w.heap.size w wx)
        case first =>
          go_region_held3 (fun w' => (w'.cell? ⟨wr.heap.size, 0, none⟩ = some (.int .i64 (F k)) ∧ w'.cell? ⟨wr.heap.size, 1, none⟩ = some (.int .i64 (L k))) ∧ w'.cell? ⟨blk, off, none⟩ = some (.int .i64 (F 0)) ∧ w'.cell? ⟨blk, off + 1, none⟩ = some (.int .i64 (L 0)))
            (first
              | exact ⟨⟨y0, y1⟩, l0, l1⟩
              | exact ⟨⟨Y9.c0, Y9.c1⟩, L9.1, L9.2⟩
              | exact ⟨⟨(Y9.alloc _).c0, (Y9.alloc _).c1⟩, (L9.alloc _).1, (L9.alloc _).2⟩
              | exact ⟨⟨(Y9.other2 NN.out.1 _ _).c0, (Y9.other2 NN.out.1 _ _).c1⟩, (L9.other2 NN.out.2 _ _).1, (L9.other2 NN.out.2 _ _).2⟩
              | exact ⟨⟨(YU.out.alloc _).c0, (YU.out.alloc _).c1⟩, (LU.out.alloc _).1, (LU.out.alloc _).2⟩
              | go_keep)
            (first
              | (go_at_call 20; refine (Meet_any _ _ _ _ _).mono ?_; rintro e v ⟨rfl, hb9⟩
                 have Y9 : Box v wr.heap.size (F k) (L k) := by first | exact Box.next (Box.drew YU.out) hb9 | exact Box.next (Box.drew (Box.alloc YU.out _)) hb9
                 have L9 : Two v blk off (F 0) (L 0) := by first | exact Two.next (Two.drew LU.out) hb9 | exact Two.next (Two.drew (Two.alloc LU.out _)) hb9
                 have X9 : Hid (Box v v1.heap.size A B) := by first | exact Box.next (Box.drew XU.out) hb9 | exact Box.next (Box.drew (Box.alloc XU.out _)) hb9
                 have B9 : Hid (Below w.heap.size w v) := by first | exact (BU.out.drew).trans (hb9.mono ZW.out) | exact ((BU.out.alloc ZW.out _).drew).trans (hb9.mono (by have := ZW.out; simp; omega))
                 first
                   | (have Z9 : Box v u.heap.size 0 0 := Box.next (Box.drew (Box.new u 0 0)) hb9
                      have zz0 := Z9.c0; have zz1 := Z9.c1
                      have zf0 := Z9.frozen 0 (by omega); have zf1 := Z9.frozen 1 (by omega))
                   | skip))
          all_goals
            first
              | (obtain ⟨V, hV⟩ : ∃ V : World, V = v.alloc (.cells #[.int .i64 (meetF (F k) (L k) (F 0) (L 0)), .int .i64 (meetL (F k) (L k) (F 0) (L 0))] 23) := ⟨_, rfl⟩
                 rw [← hV]
                 have YV : Hid (Box V wr.heap.size (F k) (L k)) := by rw [hV]; exact Y9.alloc _
                 have XV : Hid (Box V v1.heap.size A B) := by rw [hV]; exact X9.out.alloc _
                 have LV : Hid (Two V blk off (F 0) (L 0)) := by rw [hV]; exact L9.alloc _
                 have ZV : Hid (Box V v.heap.size (meetF (F k) (L k) (F 0) (L 0)) (meetL (F k) (L k) (F 0) (L 0))) := by rw [hV]; exact Box.new v _ _
                 have BV : Hid (Below w.heap.size w V) := by rw [hV]; exact B9.out.alloc B9.out.size _)
              | (obtain ⟨V, hV⟩ : ∃ V : World, V = (v.setCell ⟨u.heap.size, 0, none⟩ (.int .i64 (meetF (F k) (L k) (F 0) (L 0)))).setCell ⟨u.heap.size, 1, none⟩ (.int .i64 (meetL (F k) (L k) (F 0) (L 0))) := ⟨_, rfl⟩
                 rw [← hV]
                 have YV : Hid (Box V wr.heap.size (F k) (L k)) := by rw [hV]; exact Y9.other2 NN.out.1 _ _
                 have XV : Hid (Box V v1.heap.size A B) := by rw [hV]; exact X9.out.other2 XN.out _ _
                 have LV : Hid (Two V blk off (F 0) (L 0)) := by rw [hV]; exact L9.other2 NN.out.2 _ _
                 have ZV : Hid (Box V u.heap.size (meetF (F k) (L k) (F 0) (L 0)) (meetL (F k) (L k) (F 0) (L 0))) := by rw [hV]; exact Z9.put2 _ _
                 have BV : Hid (Below w.heap.size w V) := by rw [hV]; exact (B9.out.setCell (p := ⟨u.heap.size, 0, none⟩) ZW.out _).setCell (p := ⟨u.heap.size, 1, none⟩) ZW.out _)
          all_goals
            go_wp2_with fail
            go_meet
            rw [← HXX.out, ← HYY.out] at ZV
            exact ⟨_, rfl, by rw [HMM.out], rfl, ZV.out, YV.out, XV.out, LV.out, BV.out⟩
        case rest =>
          obtain ⟨zb, rfl, rfl, rfl, hZ, hY, hX, hL, hB⟩ := hcut
          have W1 := Lib.hid (meet_ways (HV.out k hkn) (HV.out 0 (by omega)) d x y M HXX.out HYY.out HMM.out)
          have W2 : Hid (k = 0 → M = true ∧ x = F k ∧ y = L k) := fun e => by
            have h1 := HXX.out; have h2 := HYY.out; have h3 := HMM.out
            subst e
            exact meet_self (HV.out 0 (by omega)) x y M h1 h2 h3
          have YV := Lib.hid hY; have XV := Lib.hid hX; have ZV := Lib.hid hZ; have LV := Lib.hid hL; have BV := Lib.hid hB
          clear y0 y1 l0 l1 hY hX hL hB hZ
          have z0 := ZV.out.c0; have z1 := ZV.out.c1
          have y0 := YV.out.c0; have y1 := YV.out.c1
          have l0 := LV.out.1; have l1 := LV.out.2
          clear zy zl
          rcases W1.out with ⟨c1, c2, c3, c4, rfl, c5, c6⟩ | ⟨c1 | ⟨c1, c2⟩ | ⟨c1, c2, c3⟩ | ⟨c1, c2, c3, c4⟩, rfl | ⟨rfl, c5 | ⟨c5, c6⟩⟩⟩
          all_goals
            rcases Nat.eq_zero_or_pos k with k0 | k0
            · first
                | (exfalso; have := (W2.out k0).1; simp at this; done)
                | (have kz : ((k : Int) == 0) = true := bool_eq (by omega)
                   have kx : (x == F k) = true := bool_eq (W2.out k0).2.1
                   have ky : (y == L k) = true := bool_eq (W2.out k0).2.2
                   have K0 := Lib.hid k0
                   clear k0
                   go_wp2
                   go_roundw
                   case rel => exact ⟨k + 1, by omega, by go_num, by rw [FK.out], by rw [LK.out], BV.out, XV.out⟩
                   case measure => simp [intOf]; omega)
            · have kz : ((k : Int) == 0) = false := bool_ne (by omega)
              go_wp2
              go_roundw
              case rel => exact ⟨k + 1, by omega, by go_num, by rw [FK.out], by rw [LK.out], BV.out, XV.out⟩
              case measure => simp [intOf]; omega
    · have ek : k = n := by omega
      have hkd : decide ((k : Int) < (n : Int)) = false := by simp; omega
      have e1 : anyB F A k = true := by
        obtain ⟨j, j1, j2⟩ := hF_mem F n (by omega)
        rw [ek, HA.out]
        exact anyB_mem F _ n j j1 j2
      have e2 : anyB L B k = true := by
        obtain ⟨j, j1, j2⟩ := hL_mem L n (by omega)
        rw [ek, HB.out]
        exact anyB_mem L _ n j j1 j2
      rw [e1, e2]
      clear e1 e2 ek hb hX
      go_wp2
      go_ret
      exact ⟨rfl, NB.out⟩

theorem hulls_any (d : Int) (p : Option Addr) (n cap : Nat) (F L : Nat → Int) (w : World) (hT : Table w) (hD : DatsAt w p n F L) :
    Calls Tryd.prog 9 #[.slice p n cap, .int .i64 d] w fun e w' => e = .returned (.bool true) ∧ Below w.heap.size w w' := by
  obtain ⟨A, B, E, C, h⟩ := hull_any p n cap F L
  by_cases hn : 40 < (n : Int)
  · exact hulls_long d A B E p n cap F L w hT hD hn C
  rcases h with ⟨h1, rfl, rfl⟩ | ⟨rfl, h1, h2, h3, h4⟩
  · exact hulls_err d E p n cap F L w hT hD (by omega) h1 C
  · rcases hD with hD | ⟨blk, off, rfl, hc⟩
    · omega
    · exact hulls_good d A B blk off n cap F L w hT hc (by omega) (by omega) h2 h3 h4 C

set_option maxRecDepth 100000 in
theorem hulls_lifted (os : Os) (started : os.Started) (H : Type) (enc : TypeId × Value → H) :
    ReturnsInHanded {} Tryd.checked os 9 .any (fun w args => (Rows.datingHullsSpec.pre enc Tryd.prog Tryd.f9 [] false w args ∧ laidMetH Tryd.prog laid1 w) ∧ sizedMet enc Tryd.prog Tryd.f9 (OpenSpec.ofChange Rows.datingHullsSpec) false w args)
      (Rows.datingHullsSpec.post enc Tryd.prog Tryd.f9 false true false false) := by
  refine returnsInHanded_of_change_and (C := Tryd.checked) (X := fun w _ => laidMetH Tryd.prog laid1 w) (fun _ _ _ hh h => h.of_heap hh) own started (by kernel_rfl) Tryd.func9
    (ChangeSpec.witness_shaped (enc := enc) (C := Tryd.checked) (os := os) (X := fun w _ => laidMetH Tryd.prog laid1 w) false (World.doorLaid Tryd.prog 400 os) #[.slice none 0 0, .int .i64 0] 8 rfl (World.shaped_of_RefB (by kernel_rfl) (by kernel_rfl)) (by kernel_rfl) (by kernel_rfl) (by kernel_rfl) (door_met os _)) ?_
  intro W base args ds gs before hval0 hW _ _ hL _
  have hval : ∀ (j : Nat) t v, Tryd.f9.params[j]? = some t → args[j]? = some v → Value.okWide Tryd.prog W .any base t v := hval0
  have hW' := hW
  obtain ⟨p, q, hA0, hV, rfl, hfz, hnd⟩ := hW
  have hA : DataW.TrodAll enc Tryd.prog W 0 (fun _ => true) true Tryd.f9.params.toList args.toList ds p := hA0
  rw [Tryd.params9] at hA hval
  obtain ⟨v0, v1, d0, d1, p0, p1, rfl, rfl, rfl, h0, h1⟩ := trodAll_two hA
  obtain ⟨rfl, rfl⟩ := trodVars_none hV
  obtain ⟨A0, n0, c0, F0, L0, rfl, HG0⟩ := open_dats (hval 0 30 v0 rfl rfl) h0
  obtain ⟨x1, rfl, rfl, rfl, wx1⟩ := open_int Tryd.underlying3 (hval 1 3 v1 rfl rfl) h1
  refine (hulls_any x1 A0 n0 c0 F0 L0 W (table_of_laid hL) HG0).mono fun e W' ⟨he, hb⟩ => ?_
  subst he
  exact ⟨_, rfl, post_true rfl rfl (by kernel_rfl) hW' rfl hb⟩

theorem hulls_said : Rows.DatingHullsSaid :=
  OpenClaim.holds_of_wide 9 Tryd.f9 rfl rfl rfl rfl rfl rfl rfl ⟨rfl, rfl, rfl, rfl, rfl⟩ rfl rfl rfl rfl rfl (by kernel_rfl) Tryd.func9 (by kernel_rfl)
    (of_decide_eq_true (by kernel_rfl)) (by unfold Func.isWrapper; first | (rw [if_pos (by decide +kernel)]; kernel_rfl) | (rw [if_neg (by decide +kernel)]; exact ⟨rfl, rfl⟩))
    (fun os started H enc _ => hulls_lifted os started H enc)

theorem hulls_holds : Rows.DatingHullsCardSaid :=
  Claim7.holds_tied_plain_at .later [] [.data] true (true, "8d303af702edcfadd9ccb66646380e9714c2ac817b63d28ef925ba83bf977c3d") false
    hulls_said (fun _ h => by cases h) (by kernel_rfl) (fun _ h => by cases h) datingHulls_row_tie rfl ⟨rfl, rfl⟩ (by kernel_rfl) rfl
    (fun f fn hf hfn => by
      obtain rfl : f = 9 := Option.some.inj ((show Tryd.prog.funcNamed "archivum/archivumlaw03.DatingHulls" = some 9 by kernel_rfl).symm.trans hf) |>.symm
      obtain rfl : fn = Tryd.f9 := (Option.some.inj (Tryd.func9.symm.trans hfn)).symm
      exact ⟨by kernel_rfl, fun j t ht => by
        rw [Tryd.params9] at ht
        have hm : t ∈ [30, 3] := by simpa using Array.mem_of_getElem? ht
        have hall : ([30, 3].all fun u => !Tryd.prog.wantsStandIn u) = true := by kernel_rfl
        exact (show Tryd.prog.wantsStandIn t = false by simpa using List.all_eq_true.1 hall t hm)⟩)
    (by kernel_rfl)
#print axioms hulls_holds
end Go.Proofs.YtjpiaccpcmlfnaaDoor
