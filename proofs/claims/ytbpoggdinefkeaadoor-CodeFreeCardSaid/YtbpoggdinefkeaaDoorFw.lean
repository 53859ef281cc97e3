/-
  The walks of the law CodeFree. No statement of the seat is proved here.
-/
import Derived.Test.YtbpoggdinefkeaaDoorFn
import Derived.Test.YtbpoggdinefkeaaDoorAw
namespace Go.Proofs.YtbpoggdinefkeaaDoor
open Go Go.RowKit Go.Shelf

theorem row_holds {w : World} {base g c : Nat} {ns : List Int} (h : w.ownsRow base 3 1 (.slice (some ⟨g, 0, none⟩) ns.length c) ns.length (ints ns)) : base ≤ g ∧ HoldsN ns.length w g (fun j => .int .i64 (ns.getD j 0)) := by
  have h0 := h
  rcases h.2 with ⟨e, _⟩ | ⟨g', cap, cur, e, h1, h2, _⟩
  · simp at e
  · obtain ⟨rfl, rfl⟩ : g = g' ∧ c = cap := by simpa using e
    refine ⟨h1, (Array.getElem?_eq_some_iff.1 h2).1, fun j hj => ⟨?_, ?_⟩⟩
    · have := h0.cells rfl j _ (ints_at hj)
      rw [Lib.add_plain, Nat.zero_add] at this
      exact this
    · simp [World.frozen?, h2]
theorem at22 (g K L c : Nat) (h : K < L) (W : World) : (Instr.indexAt 22 (.slice (some ⟨g, 0, none⟩) L c) (.int .i64 (K : Int))).run Tryd.prog W = .ok (.pointer (some ⟨g, K, none⟩)) W := by
  have hi : (0 : Int) ≤ K ∧ (K : Int) < L := by omega
  rw [run_indexAt_slice _ _ _ _ _ _ _ (by kernel_rfl), if_pos hi]
  have e : Tryd.prog.elem 22 = 3 := by kernel_rfl
  rw [e]
  go_simp
theorem row_some {w : World} {base : Nat} {p : Option Addr} {c : Nat} {ns : List Int} (h : w.ownsRow base 3 1 (.slice p ns.length c) ns.length (ints ns)) (h0 : ns ≠ []) : ∃ g, p = some ⟨g, 0, none⟩ := by
  rcases h.2 with ⟨e, h1⟩ | ⟨g, cap, cur, e, _⟩
  · exact absurd (List.length_eq_zero_iff.1 h1) h0
  · exact ⟨g, by simp at e; exact e.1⟩
theorem holds_ints {w : World} {g : Nat} {ns : List Int} {n : Int} {v : Int} (h : HoldsN (ns.length + 1) w g (fun j => .int .i64 ((ns ++ [n]).getD j 0))) : IntsAt (w.setCell ⟨g, ns.length, none⟩ (.int .i64 v)) (some ⟨g, 0, none⟩) (ns ++ [v]) := by
  refine .inr ⟨g, 0, rfl, fun j hj => ?_⟩
  rw [List.length_append, List.length_singleton] at hj
  rw [Nat.zero_add, (h.put ns.length (by omega) (.int .i64 v)).cell j hj]
  congr 1
  by_cases e : j = ns.length
  · subst e
    rw [if_pos rfl]; simp [List.getD]
  · rw [if_neg e]
    have : j < ns.length := by omega
    simp only [List.getD, List.getElem?_append_left this]

theorem cfree_long (p : Option Addr) (n cap : Nat) (taken : List ByteArray) (above : ByteArray) (x : Int) (w : World) (hE : Env w) (hl : taken.length = n) (hA : StrsAt w p taken) (h : 30 < n) (hn : n ≤ maxLen) :
    Calls Tryd.prog 7 #[.slice p n cap, .string above, .int .u16 x] w fun e w' => e = .returned (.bool true) ∧ Below w.heap.size w w' := by
  unfold maxLen at hn
  have d1 : decide ((n : Int) > 30) = true := by rw [decide_eq_true_iff]; omega
  have E0 := Lib.hid hE; have A0 := Lib.hid hA; have HL := Lib.hid hl
  clear hE hA hl
  go_enter Tryd.func7, Tryd.ntmps7
  go_wp2_with fail
  refine (awake_true _ E0.out).mono ?_
  rintro e w0 ⟨rfl, hb⟩
  have A1 := Lib.hid (A0.out.below hb); have B0 := Lib.hid hb
  clear hb A0
  go_wp2_with fail
  go_ret
  exact ⟨rfl, B0.out⟩

theorem cfree_few (p : Option Addr) (n cap : Nat) (taken : List ByteArray) (above : ByteArray) (x : Int) (w : World) (hE : Env w) (hl : taken.length = n) (hA : StrsAt w p taken) (h : n ≤ 30) (F0 : few taken = false) :
    Calls Tryd.prog 7 #[.slice p n cap, .string above, .int .u16 x] w fun e w' => e = .returned (.bool true) ∧ Below w.heap.size w w' := by
  have d1 : decide ((n : Int) > 30) = false := by rw [decide_eq_false_iff_not]; omega

  have E0 := Lib.hid hE; have A0 := Lib.hid hA; have HL := Lib.hid hl
  clear hE hA hl
  go_enter Tryd.func7, Tryd.ntmps7
  go_wp2_with fail
  refine (awake_true _ E0.out).mono ?_
  rintro e w0 ⟨rfl, hb⟩
  have A1 := Lib.hid (A0.out.below hb); have B0 := Lib.hid hb
  clear hb A0
  go_wp2_with fail
  refine (Few_any p n cap taken _ HL.out (by omega) A1.out).mono ?_
  rintro e w1 ⟨rfl, rfl⟩
  rw [F0]
  go_wp2_with fail
  go_ret
  exact ⟨rfl, B0.out⟩

theorem cfree_above (p : Option Addr) (n cap : Nat) (taken : List ByteArray) (above : ByteArray) (x : Int) (w : World) (hE : Env w) (hl : taken.length = n) (hA : StrsAt w p taken) (h : n ≤ 30) (F0 : few taken = true) (ha : 100 < above.size) :
    Calls Tryd.prog 7 #[.slice p n cap, .string above, .int .u16 x] w fun e w' => e = .returned (.bool true) ∧ Below w.heap.size w w' := by
  have d1 : decide ((n : Int) > 30) = false := by rw [decide_eq_false_iff_not]; omega
  have d2 : decide ((above.size : Int) > 100) = true := by rw [decide_eq_true_iff]; omega
  have E0 := Lib.hid hE; have A0 := Lib.hid hA; have HL := Lib.hid hl
  clear hE hA hl
  go_enter Tryd.func7, Tryd.ntmps7
  go_wp2_with fail
  refine (awake_true _ E0.out).mono ?_
  rintro e w0 ⟨rfl, hb⟩
  have A1 := Lib.hid (A0.out.below hb); have B0 := Lib.hid hb
  clear hb A0
  go_wp2_with fail
  refine (Few_any p n cap taken _ HL.out (by omega) A1.out).mono ?_
  rintro e w1 ⟨rfl, rfl⟩
  rw [F0]
  go_wp2_with fail
  go_ret
  exact ⟨rfl, B0.out⟩

/-- Free's own contract, as the walks use it. -/
def FreeAns (p : Option Addr) (n cap : Nat) (taken : List ByteArray) (above X : ByteArray) (E : Int) : Prop := ∀ w, Env w → StrsAt w p taken →
  Calls Tryd.prog 20 #[.slice p n cap, .string above] w fun e w' => e = .returned (.tuple #[.string X, .int .i64 E]) ∧ Below w.heap.size w w'

set_option maxRecDepth 100000 in
set_option maxHeartbeats 4000000 in
theorem cfree_err (p : Option Addr) (n cap : Nat) (taken : List ByteArray) (above : ByteArray) (x : Int) (w : World) (hE : Env w) (hl : taken.length = n) (hA : StrsAt w p taken) (h : n ≤ 30) (F0 : few taken = true) (ha : above.size ≤ 100) (E : Int) (hF : FreeAns p n cap taken above ⟨#[]⟩ E) (hEE : E = 3 ∨ E = 12) :
    Calls Tryd.prog 7 #[.slice p n cap, .string above, .int .u16 x] w fun e w' => e = .returned (.bool true) ∧ Below w.heap.size w w' := by
  have d1 : decide ((n : Int) > 30) = false := by rw [decide_eq_false_iff_not]; omega
  have d2 : decide ((above.size : Int) > 100) = false := by rw [decide_eq_false_iff_not]; omega
  have E0 := Lib.hid hE; have A0 := Lib.hid hA; have HL := Lib.hid hl; have FR := Lib.hid hF
  clear hE hA hl hF
  rcases hEE with rfl | rfl <;> {
  go_enter Tryd.func7, Tryd.ntmps7
  go_wp2_with fail
  refine (awake_true _ E0.out).mono ?_
  rintro e w0 ⟨rfl, hb⟩
  have A1 := Lib.hid (A0.out.below hb); have B0 := Lib.hid hb
  clear hb A0
  go_wp2_with fail
  refine (Few_any p n cap taken _ HL.out (by omega) A1.out).mono ?_
  rintro e w1 ⟨rfl, rfl⟩
  rw [F0]
  go_wp2_with fail
  refine (FR.out _ (E0.out.below B0.out) A1.out).mono ?_
  rintro e w2 ⟨rfl, hb⟩
  have A2 := Lib.hid (A1.out.below hb); have B1 := Lib.hid (B0.out.trans (hb.mono B0.out.size))
  clear hb A1
  go_wp2_with fail
  go_ret
  exact ⟨rfl, B1.out⟩ }

set_option maxRecDepth 100000 in
set_option maxHeartbeats 4000000 in
theorem cfree_ge (p : Option Addr) (n cap : Nat) (taken : List ByteArray) (above : ByteArray) (x : Int) (w : World) (hE : Env w) (hl : taken.length = n) (hA : StrsAt w p taken) (h : n ≤ 30) (F0 : few taken = true) (ha : above.size ≤ 100) (ns : List Int) (m : Nat) (t : List UInt8) (more : Bool) (hF : FreeAns p n cap taken above ⟨t.toArray⟩ 0)
    (L : Nat) (hL : L = ns.length + 1) (h6 : ns.length < 6) (hP : ∀ w, Env w → Calls Tryd.prog 9 #[.string ⟨t.toArray⟩] w fun e w' => ∃ p c, e = .returned (.tuple #[.slice p L c, .int .i64 0]) ∧ w'.ownsRow w.heap.size 3 1 (.slice p L c) L (ints (ns ++ [(m : Int)])) ∧ Below w.heap.size w w')
    (hQ : ∀ w, Env w → Calls Tryd.prog 13 #[.string ⟨t.toArray⟩] w fun e w' => e = .returned (.tuple #[.string above, .bool more]) ∧ Below w.heap.size w w')
    (hC : ∀ w, StrsAt w p taken → Calls Tryd.prog 21 #[.slice p n cap, .string ⟨t.toArray⟩] w fun e w' => e = .returned (.bool false) ∧ w' = w)
    (hx0 : 0 ≤ x) (hx1 : x ≤ 65535) (hk : (m : Int) ≤ 1 + x % 999) :
    Calls Tryd.prog 7 #[.slice p n cap, .string above, .int .u16 x] w fun e w' => e = .returned (.bool true) ∧ Below w.heap.size w w' := by
  have d1 : decide ((n : Int) > 30) = false := by rw [decide_eq_false_iff_not]; omega
  have d2 : decide ((above.size : Int) > 100) = false := by rw [decide_eq_false_iff_not]; omega
  have E0 := Lib.hid hE; have A0 := Lib.hid hA; have HL := Lib.hid hl; have FR := Lib.hid hF
  clear hE hA hl hF
  have PP := Lib.hid hP; have PQ := Lib.hid hQ; have PC := Lib.hid hC
  clear hP hQ hC
  have rm : Int.tmod x 999 = x % 999 := Int.tmod_eq_emod_of_nonneg hx0
  have hr0 : 0 ≤ x % 999 := Int.emod_nonneg _ (by omega)
  have hr1 : x % 999 < 999 := Int.emod_lt_of_pos _ (by omega)
  obtain ⟨K, hK⟩ : ∃ K, K = ns.length := ⟨_, rfl⟩
  have HK := Lib.hid hK
  have i2 : K < L := by omega
  have i1 : (L : Int) - 1 = K := by omega
  have L6 : L ≤ 6 := by omega
  rw [← hK] at hL h6
  have HL2 := Lib.hid hL
  clear hK hL
  go_enter Tryd.func7, Tryd.ntmps7
  go_wp2_with fail
  refine (awake_true _ E0.out).mono ?_
  rintro e w0 ⟨rfl, hb⟩
  have A1 := Lib.hid (A0.out.below hb); have B0 := Lib.hid hb
  clear hb A0
  go_wp2_with fail
  refine (Few_any p n cap taken _ HL.out (by omega) A1.out).mono ?_
  rintro e w1 ⟨rfl, rfl⟩
  rw [F0]
  go_wp2_with fail
  refine (FR.out _ (E0.out.below B0.out) A1.out).mono ?_
  rintro e w2 ⟨rfl, hb⟩
  have A2 := Lib.hid (A1.out.below hb); have B1 := Lib.hid (B0.out.trans (hb.mono B0.out.size))
  clear hb A1
  go_wp2_with fail
  refine (PP.out _ (E0.out.below B1.out)).mono ?_
  rintro e w3 ⟨q, c, rfl, hr, hb⟩
  have A3 := Lib.hid (A2.out.below hb); have B2 := Lib.hid (B1.out.trans (hb.mono B1.out.size)); have R3 := Lib.hid (row_base (base' := w.heap.size) hr B1.out.size)
  clear hb hr A2
  go_wp2_with fail
  refine (PQ.out _ (E0.out.below B2.out)).mono ?_
  rintro e w4 ⟨rfl, hb⟩
  have A4 := Lib.hid (A3.out.below hb); have B3 := Lib.hid (B2.out.trans (hb.mono B2.out.size)); have R4 := Lib.hid (row_next R3.out hb)
  clear hb R3 A3
  go_wp2_with fail
  refine (PC.out _ A4.out).mono ?_
  rintro e w5 ⟨rfl, rfl⟩
  have r := R4.out
  rw [show L = (ns ++ [(m : Int)]).length by simp [HL2.out, HK.out]] at r
  obtain ⟨g, rfl⟩ := row_some r (by simp)
  have hh := (row_holds r).2
  have hg := (row_holds r).1
  rw [show (ns ++ [(m : Int)]).length = L by simp [HL2.out, HK.out]] at hh
  have HH := Lib.hid hh; have GG := Lib.hid hg
  clear r hh hg R4
  have X1 := at22 g K L c i2
  have c1 : w5.cell? ⟨g, K, none⟩ = some (.int .i64 m) := by
    have := HH.out.cell K (by omega)
    rw [this]; rw [HK.out]; simp [List.getD]
  have f1 := HH.out.frozen K (by omega)
  have dk : decide ((1 + x % 999) ≥ (m : Int)) = true := by rw [decide_eq_true_iff]; omega
  go_wp2_with fail
  go_ret
  exact ⟨rfl, B3.out⟩

set_option maxRecDepth 100000 in
set_option maxHeartbeats 4000000 in
theorem cfree_lt (p : Option Addr) (n cap : Nat) (taken : List ByteArray) (above : ByteArray) (x : Int) (w : World) (hE : Env w) (hl : taken.length = n) (hA : StrsAt w p taken) (h : n ≤ 30) (F0 : few taken = true) (ha : above.size ≤ 100) (ns : List Int) (m : Nat) (t : List UInt8) (more : Bool) (hF : FreeAns p n cap taken above ⟨t.toArray⟩ 0)
    (L : Nat) (hL : L = ns.length + 1) (h6 : ns.length < 6) (hP : ∀ w, Env w → Calls Tryd.prog 9 #[.string ⟨t.toArray⟩] w fun e w' => ∃ p c, e = .returned (.tuple #[.slice p L c, .int .i64 0]) ∧ w'.ownsRow w.heap.size 3 1 (.slice p L c) L (ints (ns ++ [(m : Int)])) ∧ Below w.heap.size w w')
    (hQ : ∀ w, Env w → Calls Tryd.prog 13 #[.string ⟨t.toArray⟩] w fun e w' => e = .returned (.tuple #[.string above, .bool more]) ∧ Below w.heap.size w w')
    (hC : ∀ w, StrsAt w p taken → Calls Tryd.prog 21 #[.slice p n cap, .string ⟨t.toArray⟩] w fun e w' => e = .returned (.bool false) ∧ w' = w)
    (hx0 : 0 ≤ x) (hx1 : x ≤ 65535) (hk : ¬ (m : Int) ≤ 1 + x % 999) (u : List UInt8)
    (hO : ∀ w p c, Env w → IntsAt w p (ns ++ [1 + x % 999]) → Calls Tryd.prog 11 #[.slice p L c] w fun e w' => e = .returned (.tuple #[.string ⟨u.toArray⟩, .int .i64 0]) ∧ Below w.heap.size w w')
    (hD : ∀ w, StrsAt w p taken → Calls Tryd.prog 21 #[.slice p n cap, .string ⟨u.toArray⟩] w fun e w' => e = .returned (.bool true) ∧ w' = w) :
    Calls Tryd.prog 7 #[.slice p n cap, .string above, .int .u16 x] w fun e w' => e = .returned (.bool true) ∧ Below w.heap.size w w' := by
  have d1 : decide ((n : Int) > 30) = false := by rw [decide_eq_false_iff_not]; omega
  have d2 : decide ((above.size : Int) > 100) = false := by rw [decide_eq_false_iff_not]; omega
  have E0 := Lib.hid hE; have A0 := Lib.hid hA; have HL := Lib.hid hl; have FR := Lib.hid hF
  clear hE hA hl hF
  have PP := Lib.hid hP; have PQ := Lib.hid hQ; have PC := Lib.hid hC
  clear hP hQ hC
  have PO := Lib.hid hO; have PD := Lib.hid hD
  clear hO hD
  have rm : Int.tmod x 999 = x % 999 := Int.tmod_eq_emod_of_nonneg hx0
  have hr0 : 0 ≤ x % 999 := Int.emod_nonneg _ (by omega)
  have hr1 : x % 999 < 999 := Int.emod_lt_of_pos _ (by omega)
  obtain ⟨K, hK⟩ : ∃ K, K = ns.length := ⟨_, rfl⟩
  have HK := Lib.hid hK
  have i2 : K < L := by omega
  have i1 : (L : Int) - 1 = K := by omega
  have L6 : L ≤ 6 := by omega
  rw [← hK] at hL h6
  have HL2 := Lib.hid hL
  clear hK hL
  go_enter Tryd.func7, Tryd.ntmps7
  go_wp2_with fail
  refine (awake_true _ E0.out).mono ?_
  rintro e w0 ⟨rfl, hb⟩
  have A1 := Lib.hid (A0.out.below hb); have B0 := Lib.hid hb
  clear hb
  go_wp2_with fail
  refine (Few_any p n cap taken _ HL.out (by omega) A1.out).mono ?_
  rintro e w1 ⟨rfl, rfl⟩
  rw [F0]
  go_wp2_with fail
  refine (FR.out _ (E0.out.below B0.out) A1.out).mono ?_
  rintro e w2 ⟨rfl, hb⟩
  have A2 := Lib.hid (A1.out.below hb); have B1 := Lib.hid (B0.out.trans (hb.mono B0.out.size))
  clear hb A1
  go_wp2_with fail
  refine (PP.out _ (E0.out.below B1.out)).mono ?_
  rintro e w3 ⟨q, c, rfl, hr, hb⟩
  have A3 := Lib.hid (A2.out.below hb); have B2 := Lib.hid (B1.out.trans (hb.mono B1.out.size)); have R3 := Lib.hid (row_base (base' := w.heap.size) hr B1.out.size)
  clear hb hr A2
  go_wp2_with fail
  refine (PQ.out _ (E0.out.below B2.out)).mono ?_
  rintro e w4 ⟨rfl, hb⟩
  have A4 := Lib.hid (A3.out.below hb); have B3 := Lib.hid (B2.out.trans (hb.mono B2.out.size)); have R4 := Lib.hid (row_next R3.out hb)
  clear hb R3 A3
  go_wp2_with fail
  refine (PC.out _ A4.out).mono ?_
  rintro e w5 ⟨rfl, rfl⟩
  have r := R4.out
  rw [show L = (ns ++ [(m : Int)]).length by simp [HL2.out, HK.out]] at r
  obtain ⟨g, rfl⟩ := row_some r (by simp)
  have hh := (row_holds r).2
  have hg := (row_holds r).1
  rw [show (ns ++ [(m : Int)]).length = L by simp [HL2.out, HK.out]] at hh
  have HH := Lib.hid hh; have GG := Lib.hid hg
  clear r hh hg R4
  have X1 := at22 g K L c i2
  have c1 : w5.cell? ⟨g, K, none⟩ = some (.int .i64 m) := by
    have := HH.out.cell K (by omega)
    rw [this]; rw [HK.out]; simp [List.getD]
  have f1 := HH.out.frozen K (by omega)
  have dk : decide ((1 + x % 999) ≥ (m : Int)) = false := by rw [decide_eq_false_iff_not]; omega
  go_wp2_with fail
  have hI := holds_ints (v := 1 + x % 999) (by rw [← HK.out, ← HL2.out]; exact HH.out)
  have B4 := Lib.hid (B3.out.setCell (p := ⟨g, K, none⟩) GG.out (.int .i64 (1 + x % 999)))
  rw [← HK.out] at hI
  have A5 := Lib.hid (A0.out.below B4.out)
  go_wp2_with fail
  refine (PO.out _ _ _ (E0.out.below B4.out) hI).mono ?_
  rintro e w6 ⟨rfl, hb⟩
  have A6 := Lib.hid (A5.out.below hb); have B5 := Lib.hid (B4.out.trans (hb.mono B4.out.size))
  clear hb A5
  go_wp2_with fail
  refine (PD.out _ A6.out).mono ?_
  rintro e w7 ⟨rfl, rfl⟩
  go_wp2_with fail
  go_ret
  exact ⟨rfl, B5.out⟩

end Go.Proofs.YtbpoggdinefkeaaDoor
