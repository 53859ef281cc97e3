/-
  The closures of plan's Check, and increase. No statement of the seat is proved here.
-/
import Derived.Test.YtbjbioiggjhknaaDoorHs
import Derived.BigRegion
namespace Go.Proofs.YtbjbioiggjhknaaDoor
open Go Go.RowKit

set_option maxHeartbeats 1000000 in
theorem cod92_any (x : Pr) (w : World) : Calls Tryd.prog 36 #[.agg #[.string x.c, .string x.t]] w fun e w' => e = .returned (.string x.c) ∧ Below w.heap.size w w' := by
  go_enter Tryd.func36, Tryd.ntmps36
  go_wp2
  go_ret
  exact ⟨rfl, by go_grown⟩
set_option maxHeartbeats 1000000 in
theorem cod97_any (x : Pr) (w : World) : Calls Tryd.prog 41 #[.agg #[.string x.c, .string x.t]] w fun e w' => e = .returned (.string x.c) ∧ Below w.heap.size w w' := by
  go_enter Tryd.func41, Tryd.ntmps41
  go_wp2
  go_ret
  exact ⟨rfl, by go_grown⟩

theorem Compare_any (a b : ByteArray) (w : World) (hE : Env w) (ha : a.size ≤ 140737488355328) (hb : b.size ≤ 140737488355328) :
    Calls Tryd.prog 51 #[.string a, .string b] w fun e w' => ∃ E, e = .returned (.tuple #[.int .i64 (cmpC a b), .int .i64 E]) ∧ Below w.heap.size w w' := by
  unfold cmpC
  cases h1 : codeN (bs a) with
  | none => exact (Compare_no a b w hE ha hb (.inl (codeN_none.1 h1))).mono fun e w' ⟨h, k⟩ => ⟨_, h, k⟩
  | some x =>
    cases h2 : codeN (bs b) with
    | none => exact (Compare_no a b w hE ha hb (.inr (codeN_none.1 h2))).mono fun e w' ⟨h, k⟩ => ⟨_, h, k⟩
    | some y => exact (Compare_ok a b x y w hE (codeN_some.1 h1) (codeN_some.1 h2)).mono fun e w' ⟨h, k⟩ => ⟨_, h, k⟩

theorem Parse_yes' (s : ByteArray) (w : World) (hE : Env w) (hs : s.size ≤ 140737488355328) (h : isC s = true) :
    Calls Tryd.prog 30 #[.string s] w fun e w' => ∃ v, e = .returned (.tuple #[v, .int .i64 0]) ∧ Below w.heap.size w w' := by
  refine (Parse_any s w hE hs).mono ?_
  rintro e w' ⟨hb, (⟨ns, v, hi, rfl, _⟩ | ⟨hi, rfl⟩)⟩
  · exact ⟨v, rfl, hb⟩
  · unfold isC at h
    rw [codeN_none.2 hi] at h
    cases h
theorem Parse_no' (s : ByteArray) (w : World) (hE : Env w) (hs : s.size ≤ 140737488355328) (h : isC s = false) :
    Calls Tryd.prog 30 #[.string s] w fun e w' => ∃ v, e = .returned (.tuple #[v, .int .i64 3]) ∧ Below w.heap.size w w' := by
  refine (Parse_any s w hE hs).mono ?_
  rintro e w' ⟨hb, (⟨ns, v, hi, rfl, _⟩ | ⟨hi, rfl⟩)⟩
  · unfold isC at h
    rw [codeN_some.2 hi] at h
    cases h
  · exact ⟨nil, rfl, hb⟩

set_option maxHeartbeats 1000000 in
theorem noc87_any (x : Pr) (w : World) (hE : Env w) (hs : x.c.size ≤ 140737488355328) : Calls Tryd.prog 29 #[.agg #[.string x.c, .string x.t]] w fun e w' => e = .returned (.bool (!isC x.c)) ∧ Below w.heap.size w w' := by
  cases hi : isC x.c with
  | true =>
    have C := Lib.hid (fun w1 (h : Below w.heap.size w w1) => Parse_yes' x.c w1 (hE.below h) hs hi)
    clear hi hE hs
    go_enter Tryd.func29, Tryd.ntmps29
    go_wp2_with fail
    refine (C.out _ ((Below.refl _ _).alloc (Nat.le_refl _) _)).mono ?_
    rintro e w' ⟨v, rfl, hb⟩
    have B : Hid (Below w.heap.size w w') := ((Below.refl _ _).alloc (Nat.le_refl _) _).trans (hb.mono (by simp))
    clear hb
    go_wp2_with fail
    go_ret
    exact ⟨rfl, B.out⟩
  | false =>
    have C := Lib.hid (fun w1 (h : Below w.heap.size w w1) => Parse_no' x.c w1 (hE.below h) hs hi)
    clear hi hE hs
    go_enter Tryd.func29, Tryd.ntmps29
    go_wp2_with fail
    refine (C.out _ ((Below.refl _ _).alloc (Nat.le_refl _) _)).mono ?_
    rintro e w' ⟨v, rfl, hb⟩
    have B : Hid (Below w.heap.size w w') := ((Below.refl _ _).alloc (Nat.le_refl _) _).trans (hb.mono (by simp))
    clear hb
    go_wp2_with fail
    go_ret
    exact ⟨rfl, B.out⟩

set_option maxHeartbeats 1000000 in
theorem non88_any (x : Pr) (w : World) (hE : Env w) (hs : x.t.size ≤ 140737488355328) : Calls Tryd.prog 31 #[.agg #[.string x.c, .string x.t]] w fun e w' => e = .returned (.bool (!nameB (bs x.t))) ∧ Below w.heap.size w w' := by
  have C := Lib.hid (fun w1 (h : Below w.heap.size w w1) => Name_any x.t w1 (hE.below h) hs)
  clear hE hs
  obtain ⟨N, hN⟩ : ∃ N, N = nameB (bs x.t) := ⟨_, rfl⟩
  rw [← hN] at C ⊢
  clear hN
  go_enter Tryd.func31, Tryd.ntmps31
  go_wp2_with fail
  refine (C.out _ ((Below.refl _ _).alloc (Nat.le_refl _) _)).mono ?_
  rintro e w' ⟨rfl, rfl⟩
  go_wp2_with fail
  go_ret
  exact ⟨rfl, by go_grown⟩

/-- A class lacks its parent. -/
def lacks (cs : List Pr) (x : Pr) : Bool := match par x.c with | none => false | some q => !has cs q
set_option maxHeartbeats 2000000 in
theorem lac90_any (p : Pln) (x : Pr) (b : Nat) (w : World) (hE : Env w) (hB : PlnAt w b 0 p) (hP : PlnOk w p) (hn : (p.cs.length : Int) ≤ 4398046511104) (hs : x.c.size ≤ 140737488355328) :
    Calls Tryd.prog 33 #[.agg #[.string x.c, .string x.t], .pointer (some ⟨b, 0, none⟩)] w fun e w' => e = .returned (.bool (lacks p.cs x)) ∧ Below w.heap.size w w' := by
  have K1 : Hid (Below w.heap.size w (w.alloc (.cells #[.string x.c, .string x.t] 36))) := (Below.refl _ _).alloc (Nat.le_refl _) _
  have C := Lib.hid (Parent_any x.c _ (hE.below K1.out) hs)
  have B0 := Lib.hid hB; have P0 := Lib.hid hP
  have HN := Lib.hid hn
  clear hE hB hP hn hs
  unfold lacks
  cases hp : par x.c with
  | none =>
    rw [hp] at C
    unfold optV at C
    clear hp
    go_enter Tryd.func33, Tryd.ntmps33
    go_wp2_with fail
    refine C.out.mono ?_
    rintro e w' ⟨rfl, hb⟩
    have B : Hid (Below w.heap.size w w') := K1.out.trans (hb.mono (by simp))
    clear hb
    go_wp2_with fail
    go_ret
    exact ⟨rfl, B.out⟩
  | some q =>
    rw [hp] at C
    unfold optV at C
    clear hp
    have D := Lib.hid (fun w1 h1 => Has_any p q w1 h1 HN.out)
    obtain ⟨N, hN⟩ : ∃ N, N = has p.cs q := ⟨_, rfl⟩
    rw [← hN] at D
    show Calls Tryd.prog 33 _ w fun e w' => e = .returned (.bool (!has p.cs q)) ∧ _
    rw [← hN]
    unfold Pln.val at D
    clear hN
    go_enter Tryd.func33, Tryd.ntmps33
    go_wp2_with fail
    refine C.out.mono ?_
    rintro e w' ⟨rfl, hb⟩
    have B : Hid (Below w.heap.size w w') := K1.out.trans (hb.mono (by simp))
    have X := B0.out.next B.out
    have b0 := X.1; have b1 := X.2.1; have b2 := X.2.2.1; have b3 := X.2.2.2.1; have b4 := X.2.2.2.2
    have PW := Lib.hid (P0.out.next B.out)
    clear hb X
    go_wp2_with fail
    refine (D.out _ PW.out).mono ?_
    rintro e w2 ⟨rfl, hb⟩
    have B2 := Lib.hid (B.out.trans (hb.mono B.out.size))
    clear hb
    go_wp2_with fail
    go_ret
    exact ⟨rfl, B2.out⟩

set_option maxHeartbeats 2000000 in
theorem unk93_any (o p : Pln) (x : Pr) (b1 b2 : Nat) (w : World) (hB : PlnAt w b1 0 o) (hB2 : PlnAt w b2 0 p) (hO : PlnOk w o) (hP : PlnOk w p) (hn : (o.cs.length : Int) ≤ 4398046511104) (hn2 : (p.cs.length : Int) ≤ 4398046511104) :
    Calls Tryd.prog 37 #[.agg #[.string x.c, .string x.t], .pointer (some ⟨b1, 0, none⟩), .pointer (some ⟨b2, 0, none⟩)] w fun e w' => e = .returned (.bool (!has o.cs x.c || !has p.cs x.t)) ∧ Below w.heap.size w w' := by
  have K1 : Hid (Below w.heap.size w (w.alloc (.cells #[.string x.c, .string x.t] 56))) := (Below.refl _ _).alloc (Nat.le_refl _) _
  have X := hB.next K1.out
  have c1 := Lib.hid (Has_any o x.c _ (hO.next K1.out) hn)
  have c2 := Lib.hid (fun w1 h1 => Has_any p x.t w1 h1 hn2)
  have B2 := Lib.hid hB2; have P0 := Lib.hid hP
  have a0 := X.1; have a1 := X.2.1; have a2 := X.2.2.1; have a3 := X.2.2.2.1; have a4 := X.2.2.2.2
  clear X hB hB2 hO hP hn hn2
  have y0 : (w.alloc (.cells #[.string x.c, .string x.t] 56)).cell? ⟨w.heap.size, 0, none⟩ = some (.string x.c) := World.cell?_alloc_new w _ 56 0
  have y1 : (w.alloc (.cells #[.string x.c, .string x.t] 56)).cell? ⟨w.heap.size, 1, none⟩ = some (.string x.t) := World.cell?_alloc_new w _ 56 1
  have Y0 := Lib.hid y0; have Y1 := Lib.hid y1
  obtain ⟨N, hN⟩ : ∃ N, N = has o.cs x.c := ⟨_, rfl⟩
  obtain ⟨M, hM⟩ : ∃ M, M = has p.cs x.t := ⟨_, rfl⟩
  rw [← hN] at c1 ⊢
  rw [← hM] at c2 ⊢
  unfold Pln.val at c1 c2
  clear hN hM
  go_enter Tryd.func37, Tryd.ntmps37
  go_wp2_with fail
  obtain ⟨V, hV⟩ : ∃ V, V = w.alloc (.cells #[.string x.c, .string x.t] 56) := ⟨_, rfl⟩
  rw [← hV] at c1 a0 a1 a2 a3 a4 y0 y1 Y0 Y1 K1 ⊢
  clear hV
  go_wp2_with fail
  refine c1.out.mono ?_
  rintro e w1 ⟨rfl, hb⟩
  have B1 : Hid (Below w.heap.size w w1) := K1.out.trans (hb.mono K1.out.size)
  have X := B2.out.next B1.out
  have z0 := cell_next Y0.out hb; have z1 := cell_next Y1.out hb
  have PW := Lib.hid (P0.out.next B1.out)
  clear hb a0 a1 a2 a3 a4 y0 y1
  have a0 := X.1; have a1 := X.2.1; have a2 := X.2.2.1; have a3 := X.2.2.2.1; have a4 := X.2.2.2.2
  clear X
  cases N with
  | false =>
    go_wp2_with fail
    go_ret
    exact ⟨rfl, B1.out⟩
  | true =>
    go_wp2_with fail
    refine (c2.out _ PW.out).mono ?_
    rintro e w2 ⟨rfl, hb⟩
    have B3 := Lib.hid (B1.out.trans (hb.mono B1.out.size))
    clear hb
    go_wp2_with fail
    go_ret
    exact ⟨rfl, B3.out⟩

set_option maxHeartbeats 2000000 in
theorem los94_any (o p : Pln) (x : Pr) (b1 b2 : Nat) (w : World) (hE : Env w) (hB : PlnAt w b1 0 o) (hB2 : PlnAt w b2 0 p) (hO : PlnOk w o) (hP : PlnOk w p) (hn : (o.cs.length : Int) ≤ 4398046511104) (hn2 : (p.cs.length : Int) ≤ 4398046511104) (hn3 : (p.ms.length : Int) ≤ 4398046511104) (hs : x.c.size ≤ 140737488355328) :
    Calls Tryd.prog 38 #[.agg #[.string x.c, .string x.t], .pointer (some ⟨b1, 0, none⟩), .pointer (some ⟨b2, 0, none⟩)] w fun e w' => e = .returned (.bool (nxt o p x.c).isNone) ∧ Below w.heap.size w w' := by
  have K1 : Hid (Below w.heap.size w (w.alloc (.cells #[.string x.c, .string x.t] 36))) := (Below.refl _ _).alloc (Nat.le_refl _) _
  have X := hB.next K1.out
  have Y := hB2.next K1.out
  have c1 := Lib.hid (Next_any o p x.c _ (hE.below K1.out) (hO.next K1.out) (hP.next K1.out) hn hn2 hn3 hs)
  have a0 := X.1; have a1 := X.2.1; have a2 := X.2.2.1; have a3 := X.2.2.2.1; have a4 := X.2.2.2.2
  have e0 := Y.1; have e1 := Y.2.1; have e2 := Y.2.2.1; have e3 := Y.2.2.2.1; have e4 := Y.2.2.2.2
  clear X Y hB hB2 hO hP hn hn2 hn3 hs hE
  have y0 : (w.alloc (.cells #[.string x.c, .string x.t] 36)).cell? ⟨w.heap.size, 0, none⟩ = some (.string x.c) := World.cell?_alloc_new w _ 36 0
  obtain ⟨N, hN⟩ : ∃ N, N = nxt o p x.c := ⟨_, rfl⟩
  rw [← hN] at c1 ⊢
  unfold Pln.val at c1
  clear hN
  go_enter Tryd.func38, Tryd.ntmps38
  go_wp2_with fail
  obtain ⟨V, hV⟩ : ∃ V, V = w.alloc (.cells #[.string x.c, .string x.t] 36) := ⟨_, rfl⟩
  rw [← hV] at c1 a0 a1 a2 a3 a4 e0 e1 e2 e3 e4 y0 K1 ⊢
  clear hV
  go_wp2_with fail
  refine c1.out.mono ?_
  rintro e w1 ⟨rfl, hb⟩
  have B1 : Hid (Below w.heap.size w w1) := K1.out.trans (hb.mono K1.out.size)
  clear hb a0 a1 a2 a3 a4 e0 e1 e2 e3 e4 y0
  cases N with
  | none =>
    unfold optV
    go_wp2_with fail
    go_ret
    exact ⟨rfl, B1.out⟩
  | some q =>
    unfold optV
    go_wp2_with fail
    go_ret
    exact ⟨rfl, B1.out⟩

end Go.Proofs.YtbjbioiggjhknaaDoor
