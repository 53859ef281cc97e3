/-
  Has, the nearest class above, Next. No statement of the seat is proved here.
-/
import Derived.Test.YtbjbioiggjhknaaDoorCf
namespace Go.Proofs.YtbjbioiggjhknaaDoor
open Go Go.RowKit

theorem ba_eq' {s t : ByteArray} (h : s = t) : (s.toList == t.toList) = true := by rw [h]; simp
theorem ba_ne' {s t : ByteArray} (h : s ≠ t) : (s.toList == t.toList) = false := by
  rw [beq_eq_false_iff_ne]
  intro e
  rw [tl, tl] at e
  apply h
  rw [← mk_bs s, ← mk_bs t, e]

theorem cell_next {w w' : World} {b o : Nat} {v : Value} (h : w.cell? ⟨b, o, none⟩ = some v) (hb : Below w.heap.size w w') : w'.cell? ⟨b, o, none⟩ = some v :=
  (hb.cell (p := ⟨b, o, none⟩) (World.block_lt_of_cell? w _ h)).trans h

set_option maxHeartbeats 1000000 in
theorem eqc43_any (x : Pr) (b : Nat) (s : ByteArray) (w : World) (h : w.cell? ⟨b, 0, none⟩ = some (.string s)) :
    Calls Tryd.prog 27 #[.agg #[.string x.c, .string x.t], .pointer (some ⟨b, 0, none⟩)] w fun e w' => e = .returned (.bool (decide (x.c = s))) ∧ Below w.heap.size w w' := by
  have z := World.block_lt_of_cell? w _ h
  by_cases k : x.c = s
  · have q := ba_eq' k
    rw [decide_eq_true k]
    clear k
    go_enter Tryd.func27, Tryd.ntmps27
    go_wp2
    go_ret
    exact ⟨rfl, by go_grown⟩
  · have q := ba_ne' k
    rw [decide_eq_false k]
    clear k
    go_enter Tryd.func27, Tryd.ntmps27
    go_wp2
    go_ret
    exact ⟨rfl, by go_grown⟩
set_option maxHeartbeats 1000000 in
theorem eqc40_any (x : Pr) (b : Nat) (s : ByteArray) (w : World) (h : w.cell? ⟨b, 0, none⟩ = some (.string s)) :
    Calls Tryd.prog 44 #[.agg #[.string x.c, .string x.t], .pointer (some ⟨b, 0, none⟩)] w fun e w' => e = .returned (.bool (decide (x.c = s))) ∧ Below w.heap.size w w' := by
  have z := World.block_lt_of_cell? w _ h
  by_cases k : x.c = s
  · have q := ba_eq' k
    rw [decide_eq_true k]
    clear k
    go_enter Tryd.func44, Tryd.ntmps44
    go_wp2
    go_ret
    exact ⟨rfl, by go_grown⟩
  · have q := ba_ne' k
    rw [decide_eq_false k]
    clear k
    go_enter Tryd.func44, Tryd.ntmps44
    go_wp2
    go_ret
    exact ⟨rfl, by go_grown⟩

set_option maxHeartbeats 2000000 in
theorem Has_any (x : Pln) (s : ByteArray) (w : World) (hP : PlnOk w x) (hn : (x.cs.length : Int) ≤ 4398046511104) :
    Calls Tryd.prog 15 #[x.val, .string s] w fun e w' => e = .returned (.bool (has x.cs s)) ∧ Below w.heap.size w w' := by
  have P0 := Lib.hid hP
  unfold Pln.val
  obtain ⟨n, hl⟩ : ∃ n, x.cs.length = n := ⟨_, rfl⟩
  rw [hl] at hn ⊢
  have HL := Lib.hid hl
  clear hP hl
  go_enter Tryd.func15, Tryd.ntmps15
  go_wp2_with fail
  have K1 : Hid (Below w.heap.size w ((w.alloc (.cells #[.int .i64 x.v, .int .i64 x.f, .int .i64 x.u, .slice x.cp n x.cc, .slice x.mp x.ms.length x.mc] 34)).alloc (.cells #[.string s] 9))) := ((Below.refl _ _).alloc (Nat.le_refl _) _).alloc (by simp) _
  refine (CF_43 x.cp n x.cc x.cs (w.heap.size + 1) (fun y => decide (y.c = s)) (fun w1 => w1.cell? ⟨w.heap.size + 1, 0, none⟩ = some (.string s)) (fun _ _ h hb => cell_next h hb) (fun y _ w1 h => eqc43_any y _ s w1 h) _ (P0.out.1.next K1.out)
    (by have := World.cell?_alloc_new (w.alloc (.cells #[.int .i64 x.v, .int .i64 x.f, .int .i64 x.u, .slice x.cp n x.cc, .slice x.mp x.ms.length x.mc] 34)) #[.string s] 9 0; rwa [World.size_alloc] at this) HL.out hn).mono ?_
  rintro e w' ⟨rfl, hb⟩
  have K2 : Hid (Below w.heap.size w w') := K1.out.trans (hb.mono K1.out.size)
  clear hb
  go_wp2_with fail
  go_ret
  exact ⟨rfl, K2.out⟩

def emp : ByteArray := ⟨#[]⟩
def optV (o : Option ByteArray) : Value := match o with | some t => .tuple #[.string t, .bool true] | none => .tuple #[.string ⟨#[]⟩, .bool false]
theorem Parent_any (s : ByteArray) (w : World) (hE : Env w) (hs : s.size ≤ 140737488355328) :
    Calls Tryd.prog 34 #[.string s] w fun e w' => e = .returned (optV (par s)) ∧ Below w.heap.size w w' := by
  cases h : par s with
  | none => exact Parent_no s w hE hs (par_none h)
  | some q =>
    obtain ⟨ms, n, h0, h1, rfl, _⟩ := par_some h
    exact Parent_yes s ms n w hE h0 h1
theorem par_size {s q : ByteArray} (h : par s = some q) : q.size ≤ 24 := by
  obtain ⟨ms, n, h0, h1, h2, h3⟩ := par_some h
  rw [← bs_len]
  exact h3.len

/-- How far the loop still goes. -/
def strD (i o : Value) : Nat := match i, o with
  | .string c, .bool true => depth c + 1
  | _, _ => 0

/-- What nearest answers in the round that it is in. -/
theorem nearF_stop {cs : List Pr} {n : Nat} {s : ByteArray} (h : has cs s = true) : nearF cs (n + 1) s = some s := by
  show (if has cs s = true then some s else _) = _
  rw [if_pos h]
theorem nearF_none {cs : List Pr} {n : Nat} {s : ByteArray} (h : ¬ has cs s = true) (hp : par s = none) : nearF cs (n + 1) s = none := by
  show (if has cs s = true then some s else match par s with | none => none | some q => nearF cs n q) = _
  rw [if_neg h, hp]
theorem nearF_some {cs : List Pr} {n : Nat} {s q : ByteArray} (h : ¬ has cs s = true) (hp : par s = some q) : nearF cs (n + 1) s = nearF cs n q := by
  show (if has cs s = true then some s else match par s with | none => none | some q => nearF cs n q) = _
  rw [if_neg h, hp]

/-- The class with a code, or the nearest one above: how often the loop goes round. -/
def stepsTo (cs : List Pr) : Nat → ByteArray → Nat
  | 0, _ => 0
  | n + 1, s => if has cs s = true then 0 else
    match par s with
    | none => 0
    | some q => stepsTo cs n q + 1

set_option maxRecDepth 100000 in
set_option maxHeartbeats 4000000 in
theorem nearest_any (x : Pln) (s : ByteArray) (w : World) (hE : Env w) (hP : PlnOk w x) (hn : (x.cs.length : Int) ≤ 4398046511104) (hs : s.size ≤ 140737488355328) :
    Calls Tryd.prog 45 #[x.val, .string s] w fun e w' => e = .returned (optV (near x.cs s)) ∧ Below w.heap.size w w' := by
  have P0 := Lib.hid hP; have E0 := Lib.hid hE
  obtain ⟨R, hR⟩ : ∃ R, R = near x.cs s := ⟨_, rfl⟩
  have HR : Hid (nearF x.cs 8 s = R) := hR.symm
  rw [← hR]
  clear hP hE hR
  have HN := Lib.hid hn
  have K1 : Hid (Below w.heap.size w (w.alloc (.cells #[.int .i64 x.v, .int .i64 x.f, .int .i64 x.u, .slice x.cp x.cs.length x.cc, .slice x.mp x.ms.length x.mc] 34))) := (Below.refl _ _).alloc (Nat.le_refl _) _
  have B1 : Hid (PlnAt (w.alloc (.cells #[.int .i64 x.v, .int .i64 x.f, .int .i64 x.u, .slice x.cp x.cs.length x.cc, .slice x.mp x.ms.length x.mc] 34)) w.heap.size 0 x) :=
    ⟨World.cell?_alloc_new w _ 34 0, World.cell?_alloc_new w _ 34 1, World.cell?_alloc_new w _ 34 2, World.cell?_alloc_new w _ 34 3, World.cell?_alloc_new w _ 34 4⟩
  unfold Pln.val
  clear hn
  go_enter Tryd.func45, Tryd.ntmps45
  go_wp2_with fail
  go_loopw [1, 6] (fun i o wr => (∃ (c : ByteArray) (n : Nat), i = .string c ∧ o = .bool true ∧ nearF x.cs n c = R ∧ depth c < n ∧ c.size ≤ 140737488355328 ∧ Below w.heap.size w wr ∧ PlnAt wr w.heap.size 0 x) ∨ (i = .string ⟨#[]⟩ ∧ o = .bool false ∧ R = none ∧ Below w.heap.size w wr ∧ PlnAt wr w.heap.size 0 x)) (fun i o _ => strD i o)
  case atStart => exact .inl ⟨s, 8, rfl, rfl, HR.out, by have := depth_le s; omega, hs, K1.out, B1.out⟩
  case round =>
    rcases hrel with ⟨c, n, rfl, rfl, hc, hd, hz, hb, hx⟩ | ⟨rfl, rfl, hR, hb, hx⟩
    · have NB := Lib.hid hb; have NX := Lib.hid hx
      have HC := Lib.hid hc
      obtain ⟨n, rfl⟩ : ∃ m, n = m + 1 := ⟨n - 1, by omega⟩
      have b0 := hx.1; have b1 := hx.2.1; have b2 := hx.2.2.1; have b3 := hx.2.2.2.1; have b4 := hx.2.2.2.2
      have C1 := Lib.hid (Has_any x c wr (P0.out.next hb) HN.out)
      have C2 := Lib.hid (fun w1 (h1 : Below w.heap.size w w1) => Parent_any c w1 (E0.out.below h1) hz)
      unfold Pln.val at C1
      clear hb hx hc
      by_cases hh : has x.cs c = true
      · have hR : Hid (R = some c) := by have := HC.out; rw [nearF_stop hh] at this; exact this.symm
        rw [hh] at C1
        clear hh
        go_wp2_with fail
        refine C1.out.mono ?_
        rintro e w1 ⟨rfl, hb⟩
        have NB1 := Lib.hid (NB.out.trans (hb.mono NB.out.size))
        clear hb
        go_wp2_with fail
        go_ret2
        rw [hR.out]
        exact ⟨rfl, NB1.out⟩
      · have hh2 : has x.cs c = false := by simpa using hh
        rw [hh2] at C1
        clear hh2
        go_wp2_with fail
        refine C1.out.mono ?_
        rintro e w1 ⟨rfl, hb⟩
        have NB1 := Lib.hid (NB.out.trans (hb.mono NB.out.size))
        have NX1 := Lib.hid (NX.out.next hb)
        clear hb
        go_wp2_with fail
        refine (C2.out _ NB1.out).mono ?_
        rintro e w2 ⟨rfl, hb⟩
        have NB2 := Lib.hid (NB1.out.trans (hb.mono NB1.out.size))
        have NX2 := Lib.hid (NX1.out.next hb)
        clear hb
        cases hp : par c with
        | none =>
          have hR : Hid (R = none) := by have := HC.out; rw [nearF_none hh hp] at this; exact this.symm
          clear hh hp
          unfold optV
          go_wp2_with fail
          go_roundw
          case rel => exact .inr ⟨rfl, rfl, hR.out, NB2.out, NX2.out⟩
          case measure => simp [strD]
        | some q =>
          have hR : Hid (nearF x.cs n q = R) := by have := HC.out; rw [nearF_some hh hp] at this; exact this
          have hq := par_depth hp
          have hz2 := par_size hp
          clear hh hp
          unfold optV
          go_wp2_with fail
          go_roundw
          case rel => exact .inl ⟨q, n, rfl, rfl, hR.out, by omega, by omega, NB2.out, NX2.out⟩
          case measure => simp [strD]; omega
    · have NB := Lib.hid hb
      subst hR
      clear hb hx
      go_wp2_with fail
      go_ret2
      exact ⟨rfl, NB.out⟩

theorem find_at (s : ByteArray) (l : List Pr) : (l.find? (fun m => decide (m.c = s)) = none ∧ ∀ x ∈ l, decide (x.c = s) = false) ∨ ∃ (m : Nat) (x : Pr), l[m]? = some x ∧ decide (x.c = s) = true ∧ (∀ (i : Nat) y, i < m → l[i]? = some y → decide (y.c = s) = false) ∧ l.find? (fun m => decide (m.c = s)) = some x := by
  rcases first_pr (fun m => decide (m.c = s)) l with ⟨h1, _⟩ | ⟨m, x, h1, h2, h3, _, h5⟩
  · exact .inl ⟨List.find?_eq_none.2 (fun x hx => by rw [h1 x hx]; simp), h1⟩
  · exact .inr ⟨m, x, h1, h2, h3, h5⟩

def Pln.cells (x : Pln) : Array Value := #[.int .i64 x.v, .int .i64 x.f, .int .i64 x.u, .slice x.cp x.cs.length x.cc, .slice x.mp x.ms.length x.mc]
theorem pln_new (w : World) (x : Pln) (t : TypeId) : PlnAt (w.alloc (.cells x.cells t)) w.heap.size 0 x :=
  ⟨World.cell?_alloc_new w _ t 0, World.cell?_alloc_new w _ t 1, World.cell?_alloc_new w _ t 2, World.cell?_alloc_new w _ t 3, World.cell?_alloc_new w _ t 4⟩
theorem two_new (w : World) (x y : Pln) (t : TypeId) : PlnAt ((w.alloc (.cells x.cells t)).alloc (.cells y.cells t)) w.heap.size 0 x ∧ PlnAt ((w.alloc (.cells x.cells t)).alloc (.cells y.cells t)) (w.heap.size + 1) 0 y := by
  refine ⟨(pln_new w x t).next ((Below.refl _ _).alloc (Nat.le_refl _) _), ?_⟩
  have := pln_new (w.alloc (.cells x.cells t)) y t
  rwa [World.size_alloc] at this
theorem str_new (w : World) (s : ByteArray) (t : TypeId) (n : Nat) (h : w.heap.size = n) : (w.alloc (.cells #[.string s] t)).cell? ⟨n, 0, none⟩ = some (.string s) := by
  subst h
  exact World.cell?_alloc_new w _ t 0
theorem below3 (w : World) (x y z : Obj) : Below w.heap.size w (((w.alloc x).alloc y).alloc z) :=
  (((Below.refl _ _).alloc (Nat.le_refl _) _).alloc (by simp) _).alloc (by simp; omega) _

set_option maxRecDepth 100000 in
set_option maxHeartbeats 4000000 in
theorem Next_any (old new : Pln) (s : ByteArray) (w : World) (hE : Env w) (hO : PlnOk w old) (hN : PlnOk w new) (n1 : (old.cs.length : Int) ≤ 4398046511104) (n2 : (new.cs.length : Int) ≤ 4398046511104) (n3 : (new.ms.length : Int) ≤ 4398046511104) (hs : s.size ≤ 140737488355328) :
    Calls Tryd.prog 28 #[old.val, new.val, .string s] w fun e w' => e = .returned (optV (nxt old new s)) ∧ Below w.heap.size w w' := by
  have E0 := Lib.hid hE
  have O0 := Lib.hid hO; have N0 := Lib.hid hN
  obtain ⟨W3, hW3⟩ : ∃ W3, W3 = ((w.alloc (.cells old.cells 34)).alloc (.cells new.cells 34)).alloc (.cells #[.string s] 9) := ⟨_, rfl⟩
  have B3 : Hid (Below w.heap.size w W3) := by rw [hW3]; exact below3 _ _ _ _
  have XO : Hid (PlnAt W3 w.heap.size 0 old) := by
    rw [hW3]
    exact (two_new w old new 34).1.next ((Below.refl _ _).alloc (Nat.le_refl _) _)
  have XN : Hid (PlnAt W3 (w.heap.size + 1) 0 new) := by
    rw [hW3]
    exact (two_new w old new 34).2.next ((Below.refl _ _).alloc (Nat.le_refl _) _)
  have XS : Hid (W3.cell? ⟨w.heap.size + 2, 0, none⟩ = some (.string s)) := by
    rw [hW3]
    exact str_new _ _ _ _ (by simp)
  have C1 := Lib.hid (Has_any old s W3 (O0.out.next B3.out) n1)
  have C2 := Lib.hid (fun w1 (h1 : Below w.heap.size w w1) => nearest_any new s w1 (E0.out.below h1) (N0.out.next h1) n2 hs)
  have HF := Lib.hid (find_at s new.ms)
  have C3 := Lib.hid (fun (m : Nat) w1 (h1 : PrsAt w1 new.mp new.ms) (h2 : w1.cell? ⟨w.heap.size + 2, 0, none⟩ = some (.string s)) => IF_40 new.mp new.ms.length new.mc m new.ms (w.heap.size + 2) (fun y => decide (y.c = s)) (fun w1 => w1.cell? ⟨w.heap.size + 2, 0, none⟩ = some (.string s)) (fun _ _ h hb => cell_next h hb) (fun y _ w1 h => eqc40_any y _ s w1 h) w1 h1 h2 rfl n3)
  obtain ⟨R, hR⟩ : ∃ R, R = nxt old new s := ⟨_, rfl⟩
  have HR := Lib.hid hR
  rw [← hR]
  unfold Pln.val at C1 C2 ⊢
  unfold Pln.cells at hW3
  clear hE hO hN n1 n2 n3 hs hR
  have a0 := XO.out.1; have a1 := XO.out.2.1; have a2 := XO.out.2.2.1; have a3 := XO.out.2.2.2.1; have a4 := XO.out.2.2.2.2
  have s0 := XS.out
  by_cases hh : has old.cs s = true
  · rw [hh] at C1
    rcases HF.out with ⟨g1, g2⟩ | ⟨m, y, g1, g2, g3, g4⟩
    · have HR2 : Hid (R = near new.cs s) := by
        show R = near new.cs s
        rw [HR.out]; unfold nxt; rw [if_pos hh, g1]
      have G2 := Lib.hid (C3.out new.ms.length)
      have G3 : Hid (∀ (i : Nat) x, i < new.ms.length → new.ms[i]? = some x → decide (x.c = s) = false) := fun i x _ hx => g2 x (List.mem_of_getElem? hx)
      clear hh HF g1 g2 C3
      go_enter Tryd.func28, Tryd.ntmps28
      go_wp2_with fail
      rw [← hW3]
      go_wp2_with fail
      refine C1.out.mono ?_
      rintro e w1 ⟨rfl, hb⟩
      have B4 := Lib.hid (B3.out.trans (hb.mono B3.out.size))
      have XN1 := Lib.hid (XN.out.next hb)
      have XS1 := Lib.hid (cell_next XS.out hb)
      clear hb a0 a1 a2 a3 a4 s0
      have b0 := XN1.out.1; have b1 := XN1.out.2.1; have b2 := XN1.out.2.2.1; have b3 := XN1.out.2.2.2.1; have b4 := XN1.out.2.2.2.2
      go_wp2_with fail
      refine (G2.out w1 (N0.out.next B4.out).2 XS1.out (Nat.le_refl _) G3.out (-1) (by first | exact .inl ⟨rfl, rfl⟩ | simp)).mono ?_
      rintro e w2 ⟨rfl, hb⟩
      have B5 := Lib.hid (B4.out.trans (hb.mono B4.out.size))
      have XN2 := Lib.hid (XN1.out.next hb)
      have XS2 := Lib.hid (cell_next XS1.out hb)
      clear hb b0 b1 b2 b3 b4
      have b0 := XN2.out.1; have b1 := XN2.out.2.1; have b2 := XN2.out.2.2.1; have b3 := XN2.out.2.2.2.1; have b4 := XN2.out.2.2.2.2
      have s0 := XS2.out
      go_wp2_with fail
      refine (C2.out w2 B5.out).mono ?_
      rintro e w3 ⟨rfl, hb⟩
      have B6 := Lib.hid (B5.out.trans (hb.mono B5.out.size))
      clear hb
      obtain ⟨N, hN⟩ : ∃ N, N = near new.cs s := ⟨_, rfl⟩
      rw [← hN] at HR2 ⊢
      clear hN
      cases N with
      | none =>
        unfold optV
        go_wp2_with fail
        go_ret2
        rw [HR2.out]
        exact ⟨rfl, B6.out⟩
      | some q =>
        unfold optV
        go_wp2_with fail
        go_ret2
        rw [HR2.out]
        exact ⟨rfl, B6.out⟩
    · have HR2 : Hid (R = some y.t) := by
        show R = some y.t
        rw [HR.out]; unfold nxt; rw [if_pos hh, g4]
      have G2 := Lib.hid (C3.out m)
      have G3 := Lib.hid g3
      have hm : m < new.ms.length := (List.getElem?_eq_some_iff.1 g1).1
      have G5 : Hid (∃ x, new.ms[m]? = some x ∧ decide (x.c = s) = true ∧ (m : Int) = m) := ⟨y, g1, g2, rfl⟩
      have G1 := Lib.hid g1
      have HM : (m : Int) < (new.ms.length : Int) := by omega
      clear hh HF g1 g2 g3 g4 C3
      go_enter Tryd.func28, Tryd.ntmps28
      go_wp2_with fail
      rw [← hW3]
      go_wp2_with fail
      refine C1.out.mono ?_
      rintro e w1 ⟨rfl, hb⟩
      have B4 := Lib.hid (B3.out.trans (hb.mono B3.out.size))
      have XN1 := Lib.hid (XN.out.next hb)
      have XS1 := Lib.hid (cell_next XS.out hb)
      clear hb a0 a1 a2 a3 a4 s0
      have b0 := XN1.out.1; have b1 := XN1.out.2.1; have b2 := XN1.out.2.2.1; have b3 := XN1.out.2.2.2.1; have b4 := XN1.out.2.2.2.2
      go_wp2_with fail
      refine (G2.out w1 (N0.out.next B4.out).2 XS1.out (Nat.le_of_lt hm) G3.out m (.inr (by obtain ⟨x, h1, h2, _⟩ := G5.out; exact ⟨x, h1, h2, rfl⟩))).mono ?_
      rintro e w2 ⟨rfl, hb⟩
      have B5 := Lib.hid (B4.out.trans (hb.mono B4.out.size))
      have XN2 := Lib.hid (XN1.out.next hb)
      obtain ⟨blk, off, hp, hy⟩ := (N0.out.next B5.out).2.get G1.out
      clear hb b0 b1 b2 b3 b4
      have b0 := XN2.out.1; have b1 := XN2.out.2.1; have b2 := XN2.out.2.2.1; have b3 := XN2.out.2.2.2.1; have b4 := XN2.out.2.2.2.2
      rw [hp] at b4
      have y0 := hy.1; have y1 := hy.2
      have zb := hy.lt
      clear hy hp
      go_wp2_with fail
      go_ret2
      rw [HR2.out]
      exact ⟨rfl, B5.out⟩
  · have hh2 : has old.cs s = false := by simpa using hh
    have HR2 : Hid (R = none) := by
      show R = none
      rw [HR.out]; unfold nxt; rw [if_neg hh]
    rw [hh2] at C1
    clear hh hh2 HF C3 C2
    go_enter Tryd.func28, Tryd.ntmps28
    go_wp2_with fail
    rw [← hW3]
    go_wp2_with fail
    refine C1.out.mono ?_
    rintro e w1 ⟨rfl, hb⟩
    have B4 := Lib.hid (B3.out.trans (hb.mono B3.out.size))
    clear hb
    go_wp2_with fail
    go_ret2
    rw [HR2.out]
    exact ⟨rfl, B4.out⟩

end Go.Proofs.YtbjbioiggjhknaaDoor
