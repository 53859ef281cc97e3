/-
  The reference's Parse, in its four ways. No statement of the seat is proved here.
-/
import Derived.Test.YtjpiaccpcmlfnaaDoorRz
import Derived.Test.YtjpiaccpcmlfnaaDoorSm
namespace Go.Proofs.YtjpiaccpcmlfnaaDoor
open Go.RowKit Cal
open Classical

/-- A block of two cells that may be written. -/
def Z2 (w : World) (b : Nat) (u v : Value) : Prop := w.cell? ⟨b, 0, none⟩ = some u ∧ w.cell? ⟨b, 1, none⟩ = some v ∧ w.frozen? ⟨b, 0, none⟩ = false ∧ w.frozen? ⟨b, 1, none⟩ = false ∧ b < w.heap.size
theorem Z2.new (w : World) (u v : Value) (t : TypeId) : Z2 (w.alloc (.cells #[u, v] t)) w.heap.size u v :=
  ⟨by rw [World.cell?_alloc_mark]; rfl, by rw [World.cell?_alloc_mark]; rfl, World.frozen?_alloc_new _ _ _ _, World.frozen?_alloc_new _ _ _ _, by simp⟩
theorem Z2.below {w w' : World} {b : Nat} {u v : Value} (h : Z2 w b u v) (hb : Below w.heap.size w w') : Z2 w' b u v :=
  ⟨(hb.cell (p := ⟨b, 0, none⟩) h.2.2.2.2).trans h.1, (hb.cell (p := ⟨b, 1, none⟩) h.2.2.2.2).trans h.2.1, (hb.frozen (p := ⟨b, 0, none⟩) h.2.2.2.2).trans h.2.2.1, (hb.frozen (p := ⟨b, 1, none⟩) h.2.2.2.2).trans h.2.2.2.1, Nat.lt_of_lt_of_le h.2.2.2.2 hb.size⟩
theorem Z2.alloc {w : World} {b : Nat} {u v : Value} (h : Z2 w b u v) (o : Obj) : Z2 (w.alloc o) b u v := h.below ((Below.refl _ _).alloc (Nat.le_refl _) o)

set_option maxHeartbeats 1000000 in
theorem refSpan_any (f l : Int) (w : World) :
    Calls Tryd.prog 45 #[.int .i64 f, .int .i64 l] w fun e w' => e = .returned (.tuple #[.agg #[.int .i64 (if okD f l then f else 0), .int .i64 (if okD f l then l else 0)], .int .i64 (if okD f l then 0 else 2)]) ∧ Below w.heap.size w w' := by
  have G := Lib.hid (fun w => refGood_any f l w)
  by_cases h : okD f l
  · rw [decide_eq_true h] at G
    rw [if_pos h, if_pos h, if_pos h]
    clear h
    go_enter Tryd.func45, Tryd.ntmps45
    go_wp2_with fail
    refine (G.out _).mono ?_
    rintro e w1 ⟨rfl, hb⟩
    have B0 : Below w.heap.size w ((w.alloc (.cells #[.int .i64 0, .int .i64 0] 23)).alloc (.cells #[.int .i64 f, .int .i64 l] 23)) := ((Below.refl w.heap.size w).alloc (Nat.le_refl _) _).alloc (by simp) _
    have B1 := Lib.hid (B0.trans (hb.mono (by simp; omega)))
    have kk := ((Z2.new w (.int .i64 0) (.int .i64 0) 23).alloc (.cells #[.int .i64 f, .int .i64 l] 23)).below hb
    have ll := (Z2.new (w.alloc (.cells #[.int .i64 0, .int .i64 0] 23)) (.int .i64 f) (.int .i64 l) 23).below hb
    rw [World.size_alloc] at ll
    obtain ⟨k0, k1, k2, k3, _⟩ := kk
    obtain ⟨l0, l1, l2, l3, _⟩ := ll
    clear hb B0
    go_wp2
    refine bodyPost_ret (by simp [results, Tryd.results45, go_sem, set20 k0, set21 k1] <;> rfl) rfl ⟨rfl, ?_⟩
    exact (B1.out.setCell (p := ⟨w.heap.size, 0, none⟩) (Nat.le_refl _) _).setCell (p := ⟨w.heap.size, 1, none⟩) (Nat.le_refl _) _
  · rw [decide_eq_false h] at G
    rw [if_neg h, if_neg h, if_neg h]
    clear h
    go_enter Tryd.func45, Tryd.ntmps45
    go_wp2_with fail
    refine (G.out _).mono ?_
    rintro e w1 ⟨rfl, hb⟩
    have B0 : Below w.heap.size w ((w.alloc (.cells #[.int .i64 0, .int .i64 0] 23)).alloc (.cells #[.int .i64 f, .int .i64 l] 23)) := ((Below.refl w.heap.size w).alloc (Nat.le_refl _) _).alloc (by simp) _
    have B1 := Lib.hid (B0.trans (hb.mono (by simp; omega)))
    have kk := ((Z2.new w (.int .i64 0) (.int .i64 0) 23).alloc (.cells #[.int .i64 f, .int .i64 l] 23)).below hb
    obtain ⟨k0, k1, k2, k3, _⟩ := kk
    clear hb B0
    go_wp2
    refine bodyPost_ret (by simp [results, Tryd.results45, go_sem, set20 k0, set21 k1] <;> rfl) rfl ⟨rfl, ?_⟩
    first
      | exact B1.out
      | exact (B1.out.setCell (p := ⟨w.heap.size, 0, none⟩) (Nat.le_refl _) _).setCell (p := ⟨w.heap.size, 1, none⟩) (Nat.le_refl _) _

abbrev AnsR (F L E : Int) : Ending := .returned (.tuple #[.agg #[.int .i64 F, .int .i64 L], .int .i64 E])
theorem refWorse_any (a b : Int) (w : World) : Calls Tryd.prog 46 #[.int .i64 a, .int .i64 b] w fun e w' => e = .returned (.int .i64 (if a = 3 ∨ b = 3 then 3 else if a ≠ 0 then a else b)) ∧ w = w' := by
  by_cases h1 : a = 3
  · subst h1
    rw [if_pos (.inl rfl)]
    go_enter Tryd.func46, Tryd.ntmps46
    go_wp2_with fail
    go_ret
    exact ⟨rfl, rfl⟩
  have e1 : (a == 3) = false := bool_ne h1
  by_cases h2 : b = 3
  · subst h2
    rw [if_pos (.inr rfl)]
    clear h1
    go_enter Tryd.func46, Tryd.ntmps46
    go_wp2_with fail
    go_ret
    exact ⟨rfl, rfl⟩
  have e2 : (b == 3) = false := bool_ne h2
  rw [if_neg (by omega)]
  by_cases h3 : a = 0
  · subst h3
    rw [if_neg (by omega)]
    clear h1 h2
    go_enter Tryd.func46, Tryd.ntmps46
    go_wp2_with fail
    go_ret
    exact ⟨rfl, rfl⟩
  · rw [if_pos h3]
    have e3 : (a == 0) = false := bool_ne h3
    have e4 : (a != 0) = true := by unfold bne; rw [e3]; rfl
    clear h1 h2 h3
    go_enter Tryd.func46, Tryd.ntmps46
    go_wp2_with fail
    go_ret
    exact ⟨rfl, rfl⟩

theorem refParse_unk (w : World) : Calls Tryd.prog 27 #[.string ⟨#[117, 110, 107, 110, 111, 119, 110]⟩] w fun e w' => e = AnsR 0 1048575 0 ∧ Below w.heap.size w w' := by
  go_enter Tryd.func27, Tryd.ntmps27
  go_wp2
  refine bodyPost_ret (by simp [results, Tryd.results27, go_sem] <;> rfl) rfl ⟨rfl, ?_⟩
  exact agg0 _ _

set_option maxHeartbeats 4000000 in
theorem refParse_befB (s t : ByteArray) (F L E : Int) (w : World) (uk : (s.toList == [117, 110, 107, 110, 111, 119, 110]) = false) (hk : 7 < s.size) (hb : s.size ≤ 1000)
    (hp : ((s.extract 0 7).toList == [98, 101, 102, 111, 114, 101, 32]) = true) (ht : s.extract 7 s.size = t) (c : ∀ w, Calls Tryd.prog 44 #[.string t] w fun e w' => e = AnsR F L E ∧ Below w.heap.size w w') (hE : E ≠ 0) :
    Calls Tryd.prog 27 #[.string s] w fun e w' => e = AnsR 0 0 E ∧ Below w.heap.size w w' := by
  have C := Lib.hid c
  have ne1 : (E == 0) = false := bool_ne hE
  have ne2 : (E != 0) = true := by unfold bne; rw [ne1]; rfl
  clear hE
  have g7 : decide ((s.size : Int) > 7) = true := by rw [decide_eq_true_iff]; omega
  have le7 : 7 ≤ s.size := by omega
  have HT := Lib.hid ht
  clear c ht hk
  go_enter Tryd.func27, Tryd.ntmps27
  go_wp2_with fail
  try rw [HT.out]
  refine (C.out _).mono ?_
  rintro e w2 ⟨rfl, hb⟩
  have B1 := Lib.hid (((Below.refl w.heap.size w).alloc (Nat.le_refl _) (.cells #[.int .i64 0, .int .i64 0] 23)).trans (hb.mono (by simp)))
  have kk := Lib.hid ((Z2.new w (.int .i64 0) (.int .i64 0) 23).below hb)
  obtain ⟨c0, c1, f0, f1, z⟩ := kk.out
  clear hb
  go_wp2
  have q := res2' (x := .int .i64 0) (y := .int .i64 0) (.cells #[.int .i64 F, .int .i64 L] 23) c0 c1
  refine bodyPost_ret (by simp [results, Tryd.results27, go_sem, q.1, q.2] <;> rfl) rfl ⟨rfl, ?_⟩
  first
    | exact B1.out.alloc B1.out.size _
    | (have B2 := (B1.out.setCell (p := ⟨w.heap.size, 0, none⟩) (Nat.le_refl _) (.int .i64 0)).setCell (p := ⟨w.heap.size, 1, none⟩) (Nat.le_refl _) (.int .i64 0); exact B2.alloc B2.size _)
    | exact ((B1.out.alloc B1.out.size _).setCell (p := ⟨w.heap.size, 0, none⟩) (Nat.le_refl _) _).setCell (p := ⟨w.heap.size, 1, none⟩) (Nat.le_refl _) _

set_option maxHeartbeats 4000000 in
theorem refParse_befG (s t : ByteArray) (F L E : Int) (w : World) (uk : (s.toList == [117, 110, 107, 110, 111, 119, 110]) = false) (hk : 7 < s.size) (hb : s.size ≤ 1000)
    (hp : ((s.extract 0 7).toList == [98, 101, 102, 111, 114, 101, 32]) = true) (ht : s.extract 7 s.size = t) (c : ∀ w, Calls Tryd.prog 44 #[.string t] w fun e w' => e = AnsR F L E ∧ Below w.heap.size w w') (hE : E = 0) (hr : 0 ≤ F ∧ F ≤ 1048575 ∧ 0 ≤ L ∧ L ≤ 1048575) :
    Calls Tryd.prog 27 #[.string s] w fun e w' => e = AnsR (if okD 0 (F - 1) then 0 else 0) (if okD 0 (F - 1) then F - 1 else 0) (if okD 0 (F - 1) then 0 else 2) ∧ Below w.heap.size w w' := by
  have C := Lib.hid c
  have D := Lib.hid (fun w => refSpan_any (0) (F - 1) w)
  obtain ⟨X, hX⟩ : ∃ X, X = if okD (0) (F - 1) then (0 : Int) else 0 := ⟨_, rfl⟩
  obtain ⟨Y, hY⟩ : ∃ Y, Y = if okD (0) (F - 1) then (F - 1 : Int) else 0 := ⟨_, rfl⟩
  obtain ⟨Z, hZ⟩ : ∃ Z, Z = if okD (0) (F - 1) then (0 : Int) else 2 := ⟨_, rfl⟩
  rw [← hX, ← hY, ← hZ] at D ⊢
  subst hE
  clear hX hY hZ
  have w1 : IntKind.i64.wrap (F - 1) = F - 1 := IntWalk.i64_in _ (by omega)
  have g7 : decide ((s.size : Int) > 7) = true := by rw [decide_eq_true_iff]; omega
  have le7 : 7 ≤ s.size := by omega
  have HT := Lib.hid ht
  clear c ht hk
  go_enter Tryd.func27, Tryd.ntmps27
  go_wp2_with fail
  try rw [HT.out]
  refine (C.out _).mono ?_
  rintro e w2 ⟨rfl, hb⟩
  have B1 := Lib.hid (((Below.refl w.heap.size w).alloc (Nat.le_refl _) (.cells #[.int .i64 0, .int .i64 0] 23)).trans (hb.mono (by simp)))
  have kk := Lib.hid ((Z2.new w (.int .i64 0) (.int .i64 0) 23).below hb)
  obtain ⟨c0, c1, f0, f1, z⟩ := kk.out
  clear hb
  go_wp2_with fail
  refine (D.out _).mono ?_
  rintro e w3 ⟨rfl, hb⟩
  obtain ⟨k0, k1, k2, k3, _⟩ := (kk.out.alloc (.cells #[.int .i64 F, .int .i64 L] 23)).below hb
  have B2 := Lib.hid ((B1.out.alloc B1.out.size (.cells #[.int .i64 F, .int .i64 L] 23)).trans (hb.mono (by have := B1.out.size; simp; omega)))
  clear hb c0 c1 f0 f1
  go_wp2
  refine bodyPost_ret (by simp [results, Tryd.results27, go_sem, set20 k0, set21 k1] <;> rfl) rfl ⟨rfl, ?_⟩
  exact (B2.out.setCell (p := ⟨w.heap.size, 0, none⟩) (Nat.le_refl _) _).setCell (p := ⟨w.heap.size, 1, none⟩) (Nat.le_refl _) _

set_option maxHeartbeats 4000000 in
theorem refParse_aftB (s t : ByteArray) (F L E : Int) (w : World) (uk : (s.toList == [117, 110, 107, 110, 111, 119, 110]) = false) (c7 : Bool) (hc7 : decide ((s.size : Int) > 7) = c7) (hb7 : c7 = true → ((s.extract 0 7).toList == [98, 101, 102, 111, 114, 101, 32]) = false) (hk : 6 < s.size) (hb : s.size ≤ 1000)
    (hp : ((s.extract 0 6).toList == [97, 102, 116, 101, 114, 32]) = true) (ht : s.extract 6 s.size = t) (c : ∀ w, Calls Tryd.prog 44 #[.string t] w fun e w' => e = AnsR F L E ∧ Below w.heap.size w w') (hE : E ≠ 0) :
    Calls Tryd.prog 27 #[.string s] w fun e w' => e = AnsR 0 0 E ∧ Below w.heap.size w w' := by
  have C := Lib.hid c
  have ne1 : (E == 0) = false := bool_ne hE
  have ne2 : (E != 0) = true := by unfold bne; rw [ne1]; rfl
  clear hE
  have g6 : decide ((s.size : Int) > 6) = true := by rw [decide_eq_true_iff]; omega
  have le6 : 6 ≤ s.size := by omega
  have HT := Lib.hid ht
  clear c ht hk
  cases c7 with
  | false =>
    clear hb7
    go_enter Tryd.func27, Tryd.ntmps27
    go_wp2_with fail
    try rw [HT.out]
    refine (C.out _).mono ?_
    rintro e w2 ⟨rfl, hb⟩
    have B1 := Lib.hid (((Below.refl w.heap.size w).alloc (Nat.le_refl _) (.cells #[.int .i64 0, .int .i64 0] 23)).trans (hb.mono (by simp)))
    have kk := Lib.hid ((Z2.new w (.int .i64 0) (.int .i64 0) 23).below hb)
    obtain ⟨c0, c1, f0, f1, z⟩ := kk.out
    clear hb
    go_wp2
    have q := res2' (x := .int .i64 0) (y := .int .i64 0) (.cells #[.int .i64 F, .int .i64 L] 23) c0 c1
    refine bodyPost_ret (by simp [results, Tryd.results27, go_sem, q.1, q.2] <;> rfl) rfl ⟨rfl, ?_⟩
    first
      | exact B1.out.alloc B1.out.size _
      | (have B2 := (B1.out.setCell (p := ⟨w.heap.size, 0, none⟩) (Nat.le_refl _) (.int .i64 0)).setCell (p := ⟨w.heap.size, 1, none⟩) (Nat.le_refl _) (.int .i64 0); exact B2.alloc B2.size _)
      | exact ((B1.out.alloc B1.out.size _).setCell (p := ⟨w.heap.size, 0, none⟩) (Nat.le_refl _) _).setCell (p := ⟨w.heap.size, 1, none⟩) (Nat.le_refl _) _
  | true =>
    have hb7 := hb7 rfl
    have le7 : 7 ≤ s.size := by have := of_decide_eq_true hc7; omega
    go_enter Tryd.func27, Tryd.ntmps27
    go_wp2_with fail
    try rw [HT.out]
    refine (C.out _).mono ?_
    rintro e w2 ⟨rfl, hb⟩
    have B1 := Lib.hid (((Below.refl w.heap.size w).alloc (Nat.le_refl _) (.cells #[.int .i64 0, .int .i64 0] 23)).trans (hb.mono (by simp)))
    have kk := Lib.hid ((Z2.new w (.int .i64 0) (.int .i64 0) 23).below hb)
    obtain ⟨c0, c1, f0, f1, z⟩ := kk.out
    clear hb
    go_wp2
    have q := res2' (x := .int .i64 0) (y := .int .i64 0) (.cells #[.int .i64 F, .int .i64 L] 23) c0 c1
    refine bodyPost_ret (by simp [results, Tryd.results27, go_sem, q.1, q.2] <;> rfl) rfl ⟨rfl, ?_⟩
    first
      | exact B1.out.alloc B1.out.size _
      | (have B2 := (B1.out.setCell (p := ⟨w.heap.size, 0, none⟩) (Nat.le_refl _) (.int .i64 0)).setCell (p := ⟨w.heap.size, 1, none⟩) (Nat.le_refl _) (.int .i64 0); exact B2.alloc B2.size _)
      | exact ((B1.out.alloc B1.out.size _).setCell (p := ⟨w.heap.size, 0, none⟩) (Nat.le_refl _) _).setCell (p := ⟨w.heap.size, 1, none⟩) (Nat.le_refl _) _

set_option maxHeartbeats 4000000 in
theorem refParse_aftG (s t : ByteArray) (F L E : Int) (w : World) (uk : (s.toList == [117, 110, 107, 110, 111, 119, 110]) = false) (c7 : Bool) (hc7 : decide ((s.size : Int) > 7) = c7) (hb7 : c7 = true → ((s.extract 0 7).toList == [98, 101, 102, 111, 114, 101, 32]) = false) (hk : 6 < s.size) (hb : s.size ≤ 1000)
    (hp : ((s.extract 0 6).toList == [97, 102, 116, 101, 114, 32]) = true) (ht : s.extract 6 s.size = t) (c : ∀ w, Calls Tryd.prog 44 #[.string t] w fun e w' => e = AnsR F L E ∧ Below w.heap.size w w') (hE : E = 0) (hr : 0 ≤ F ∧ F ≤ 1048575 ∧ 0 ≤ L ∧ L ≤ 1048575) :
    Calls Tryd.prog 27 #[.string s] w fun e w' => e = AnsR (if okD (L + 1) (1048575) then L + 1 else 0) (if okD (L + 1) (1048575) then 1048575 else 0) (if okD (L + 1) (1048575) then 0 else 2) ∧ Below w.heap.size w w' := by
  have C := Lib.hid c
  have D := Lib.hid (fun w => refSpan_any (L + 1) (1048575) w)
  obtain ⟨X, hX⟩ : ∃ X, X = if okD (L + 1) (1048575) then (L + 1 : Int) else 0 := ⟨_, rfl⟩
  obtain ⟨Y, hY⟩ : ∃ Y, Y = if okD (L + 1) (1048575) then (1048575 : Int) else 0 := ⟨_, rfl⟩
  obtain ⟨Z, hZ⟩ : ∃ Z, Z = if okD (L + 1) (1048575) then (0 : Int) else 2 := ⟨_, rfl⟩
  rw [← hX, ← hY, ← hZ] at D ⊢
  subst hE
  clear hX hY hZ
  have w1 : IntKind.i64.wrap (L + 1) = L + 1 := IntWalk.i64_in _ (by omega)
  have g6 : decide ((s.size : Int) > 6) = true := by rw [decide_eq_true_iff]; omega
  have le6 : 6 ≤ s.size := by omega
  have HT := Lib.hid ht
  clear c ht hk
  cases c7 with
  | false =>
    clear hb7
    go_enter Tryd.func27, Tryd.ntmps27
    go_wp2_with fail
    try rw [HT.out]
    refine (C.out _).mono ?_
    rintro e w2 ⟨rfl, hb⟩
    have B1 := Lib.hid (((Below.refl w.heap.size w).alloc (Nat.le_refl _) (.cells #[.int .i64 0, .int .i64 0] 23)).trans (hb.mono (by simp)))
    have kk := Lib.hid ((Z2.new w (.int .i64 0) (.int .i64 0) 23).below hb)
    obtain ⟨c0, c1, f0, f1, z⟩ := kk.out
    clear hb
    go_wp2_with fail
    refine (D.out _).mono ?_
    rintro e w3 ⟨rfl, hb⟩
    obtain ⟨k0, k1, k2, k3, _⟩ := (kk.out.alloc (.cells #[.int .i64 F, .int .i64 L] 23)).below hb
    have B2 := Lib.hid ((B1.out.alloc B1.out.size (.cells #[.int .i64 F, .int .i64 L] 23)).trans (hb.mono (by have := B1.out.size; simp; omega)))
    clear hb c0 c1 f0 f1
    go_wp2
    refine bodyPost_ret (by simp [results, Tryd.results27, go_sem, set20 k0, set21 k1] <;> rfl) rfl ⟨rfl, ?_⟩
    exact (B2.out.setCell (p := ⟨w.heap.size, 0, none⟩) (Nat.le_refl _) _).setCell (p := ⟨w.heap.size, 1, none⟩) (Nat.le_refl _) _
  | true =>
    have hb7 := hb7 rfl
    have le7 : 7 ≤ s.size := by have := of_decide_eq_true hc7; omega
    go_enter Tryd.func27, Tryd.ntmps27
    go_wp2_with fail
    try rw [HT.out]
    refine (C.out _).mono ?_
    rintro e w2 ⟨rfl, hb⟩
    have B1 := Lib.hid (((Below.refl w.heap.size w).alloc (Nat.le_refl _) (.cells #[.int .i64 0, .int .i64 0] 23)).trans (hb.mono (by simp)))
    have kk := Lib.hid ((Z2.new w (.int .i64 0) (.int .i64 0) 23).below hb)
    obtain ⟨c0, c1, f0, f1, z⟩ := kk.out
    clear hb
    go_wp2_with fail
    refine (D.out _).mono ?_
    rintro e w3 ⟨rfl, hb⟩
    obtain ⟨k0, k1, k2, k3, _⟩ := (kk.out.alloc (.cells #[.int .i64 F, .int .i64 L] 23)).below hb
    have B2 := Lib.hid ((B1.out.alloc B1.out.size (.cells #[.int .i64 F, .int .i64 L] 23)).trans (hb.mono (by have := B1.out.size; simp; omega)))
    clear hb c0 c1 f0 f1
    go_wp2
    refine bodyPost_ret (by simp [results, Tryd.results27, go_sem, set20 k0, set21 k1] <;> rfl) rfl ⟨rfl, ?_⟩
    exact (B2.out.setCell (p := ⟨w.heap.size, 0, none⟩) (Nat.le_refl _) _).setCell (p := ⟨w.heap.size, 1, none⟩) (Nat.le_refl _) _

end Go.Proofs.YtjpiaccpcmlfnaaDoor
