/-
  slices.IndexFunc and slices.ContainsFunc over classes and over what was moved, at the closures of the program. No statement of the seat is proved here.
-/
import Derived.Test.YtbjbioiggjhknaaDoorPl
import Derived.Lib.Hide
import Derived.Handy
import Derived.BigQuiet
namespace Go.Proofs.YtbjbioiggjhknaaDoor
open Go Go.RowKit

theorem first_pr (P : Pr → Bool) : ∀ l : List Pr, ((∀ x ∈ l, P x = false) ∧ l.any P = false) ∨ ∃ (m : Nat) (x : Pr), l[m]? = some x ∧ P x = true ∧ (∀ (i : Nat) y, i < m → l[i]? = some y → P y = false) ∧ l.any P = true ∧ l.find? P = some x
  | [] => .inl ⟨fun _ h => (by cases h), rfl⟩
  | y :: l => by
    by_cases h : P y = true
    · exact .inr ⟨0, y, rfl, h, fun i _ hi => absurd hi (Nat.not_lt_zero _), by rw [List.any_cons, h]; rfl, List.find?_cons_of_pos h⟩
    · have h' : P y = false := by simpa using h
      rcases first_pr P l with ⟨h1, h2⟩ | ⟨m, x, h1, h2, h3, h4, h5⟩
      · refine .inl ⟨fun x hx => ?_, by rw [List.any_cons, h', h2]; rfl⟩
        rcases List.mem_cons.1 hx with rfl | k
        · exact h'
        · exact h1 x k
      · refine .inr ⟨m + 1, x, by simpa using h1, h2, fun i z hi hz => ?_, by rw [List.any_cons, h4]; simp, by rw [List.find?_cons_of_neg h]; exact h5⟩
        cases i with
        | zero => obtain rfl : y = z := by simpa using hz
                  exact h'
        | succ i => exact h3 i z (by omega) (by simpa using hz)
def intOf : Value → Int
  | .int _ n => n
  | _ => 0

set_option maxRecDepth 100000 in
set_option maxHeartbeats 4000000 in
theorem IF_43 (p : Option Addr) (n cap m : Nat) (l : List Pr) (b1 : Nat) (P : Pr → Bool) (Inv : World → Prop) (hI : ∀ w w' : World, Inv w → Below w.heap.size w w' → Inv w')
    (hC : ∀ x ∈ l, ∀ w : World, Inv w → Calls Tryd.prog 27 #[.agg #[.string x.c, .string x.t], .pointer (some ⟨b1, 0, none⟩)] w fun e w' => e = .returned (.bool (P x)) ∧ Below w.heap.size w w')
    (w : World) (hP : PrsAt w p l) (h0 : Inv w) (hl : l.length = n) (hn : (n : Int) ≤ 4398046511104) (hm : m ≤ n) (hv : ∀ (i : Nat) x, i < m → l[i]? = some x → P x = false) (A : Int) (hr : (m = n ∧ A = -1) ∨ (∃ x, l[m]? = some x ∧ P x = true ∧ A = m)) :
    Calls Tryd.prog 42 #[.slice p n cap, .func (.func 27) #[] #[.pointer (some ⟨b1, 0, none⟩)]] w fun e w' => e = .returned (.int .i64 A) ∧ Below w.heap.size w w' := by
  have HP := Lib.hid hP; have HV := Lib.hid hv; have HR := Lib.hid hr; have HC := Lib.hid hC; have HI := Lib.hid hI; have H0 := Lib.hid h0; have HL := Lib.hid hl
  clear hP hv hr hC hI h0 hl
  go_enter Tryd.func42, Tryd.ntmps42
  go_wp2
  go_loopw [8] (fun i wr => ∃ k : Nat, k ≤ m ∧ i = .int .i64 k ∧ Below w.heap.size w wr) (fun i _ => n - (intOf i).toNat)
  case atStart => exact ⟨0, Nat.zero_le _, rfl, by go_grown⟩
  case round =>
    obtain ⟨k, hk, rfl, hb⟩ := hrel
    have NB := Lib.hid hb
    by_cases hkn : k < n
    · obtain ⟨x, hx⟩ : ∃ x, l[k]? = some x := ⟨_, List.getElem?_eq_getElem (by rw [HL.out]; exact hkn)⟩
      obtain ⟨blk, off, rfl, hpc⟩ := HP.out.get hx
      have PW := Lib.hid (hpc.below hb hpc.lt)
      have C1 := Lib.hid (HC.out x (List.mem_of_getElem? hx))
      have IW := Lib.hid (HI.out _ _ H0.out hb)
      have HX := Lib.hid hx
      have hkd : decide ((k : Int) < (n : Int)) = true := by simp; omega
      have q0 := PW.out.1; have q1 := PW.out.2
      have zb := PW.out.lt
      clear hb hpc hx
      by_cases hin : P x = true
      · have hE : A = k := by
          rcases HR.out with h | ⟨y, h1, h2, h3⟩
          · rw [HV.out k x (by omega) HX.out] at hin; cases hin
          · rcases (show k < m ∨ k = m by omega) with g | g
            · rw [HV.out k x g HX.out] at hin; cases hin
            · subst g; exact h3
        subst hE
        rw [hin] at C1
        clear hin
        go_wp2_with fail
        refine (C1.out _ IW.out).mono ?_
        rintro e w' ⟨rfl, hb⟩
        have MB : Hid (Below w.heap.size w w') := NB.out.trans (hb.mono NB.out.size)
        clear hb
        go_wp2
        go_ret
        exact ⟨rfl, MB.out⟩
      · have hin2 : P x = false := by simpa using hin
        have hkm : k < m := by
          rcases HR.out with h | ⟨y, h1, h2, h3⟩
          · omega
          · rcases (show k < m ∨ k = m by omega) with g | g
            · exact g
            · subst g
              obtain rfl : y = x := Option.some.inj (h1.symm.trans HX.out)
              exact absurd h2 hin
        rw [hin2] at C1
        clear hin hin2
        go_wp2_with fail
        refine (C1.out _ IW.out).mono ?_
        rintro e w' ⟨rfl, hb⟩
        have MB : Hid (Below w.heap.size w w') := NB.out.trans (hb.mono NB.out.size)
        clear hb
        go_wp2
        go_roundw
        case rel => exact ⟨k + 1, by omega, by go_num, MB.out⟩
        case measure => simp [intOf]; omega
    · have hkd : decide ((k : Int) < (n : Int)) = false := by simp; omega
      have hE : A = -1 := by
        rcases HR.out with h | ⟨y, h1, _⟩
        · exact h.2
        · have := (List.getElem?_eq_some_iff.1 h1).1
          rw [HL.out] at this
          omega
      subst hE
      go_wp2
      go_ret
      exact ⟨rfl, NB.out⟩

set_option maxRecDepth 100000 in
set_option maxHeartbeats 4000000 in
theorem CF_43 (p : Option Addr) (n cap : Nat) (l : List Pr) (b1 : Nat) (P : Pr → Bool) (Inv : World → Prop) (hI : ∀ w w' : World, Inv w → Below w.heap.size w w' → Inv w')
    (hC : ∀ x ∈ l, ∀ w : World, Inv w → Calls Tryd.prog 27 #[.agg #[.string x.c, .string x.t], .pointer (some ⟨b1, 0, none⟩)] w fun e w' => e = .returned (.bool (P x)) ∧ Below w.heap.size w w')
    (w : World) (hP : PrsAt w p l) (h0 : Inv w) (hl : l.length = n) (hn : (n : Int) ≤ 4398046511104) :
    Calls Tryd.prog 26 #[.slice p n cap, .func (.func 27) #[] #[.pointer (some ⟨b1, 0, none⟩)]] w fun e w' => e = .returned (.bool (l.any P)) ∧ Below w.heap.size w w' := by
  rcases first_pr P l with ⟨h1, h2⟩ | ⟨m, x, h1, h2, h3, h4, h5⟩
  · have C := Lib.hid (IF_43 p n cap n l b1 P Inv hI hC w hP h0 hl hn (Nat.le_refl _) (fun i x _ hx => h1 x (List.mem_of_getElem? hx)) (-1) (.inl ⟨rfl, rfl⟩))
    rw [h2]
    clear hI hC hP h0 hl h1 h2
    go_enter Tryd.func26, Tryd.ntmps26
    go_wp2_with fail
    refine C.out.mono ?_
    rintro e w' ⟨rfl, hb⟩
    go_wp2_with fail
    go_ret
    exact ⟨rfl, hb⟩
  · have C := Lib.hid (IF_43 p n cap m l b1 P Inv hI hC w hP h0 hl hn (by have := (List.getElem?_eq_some_iff.1 h1).1; omega) h3 m (.inr ⟨x, h1, h2, rfl⟩))
    rw [h4]
    have e : decide ((m : Int) ≥ 0) = true := by simp
    clear hI hC hP h0 hl h1 h2 h3 h4 h5
    go_enter Tryd.func26, Tryd.ntmps26
    go_wp2_with fail
    refine C.out.mono ?_
    rintro e w' ⟨rfl, hb⟩
    go_wp2_with fail
    go_ret
    exact ⟨rfl, hb⟩

set_option maxRecDepth 100000 in
set_option maxHeartbeats 4000000 in
theorem IF_87 (p : Option Addr) (n cap m : Nat) (l : List Pr)  (P : Pr → Bool) (Inv : World → Prop) (hI : ∀ w w' : World, Inv w → Below w.heap.size w w' → Inv w')
    (hC : ∀ x ∈ l, ∀ w : World, Inv w → Calls Tryd.prog 29 #[.agg #[.string x.c, .string x.t]] w fun e w' => e = .returned (.bool (P x)) ∧ Below w.heap.size w w')
    (w : World) (hP : PrsAt w p l) (h0 : Inv w) (hl : l.length = n) (hn : (n : Int) ≤ 4398046511104) (hm : m ≤ n) (hv : ∀ (i : Nat) x, i < m → l[i]? = some x → P x = false) (A : Int) (hr : (m = n ∧ A = -1) ∨ (∃ x, l[m]? = some x ∧ P x = true ∧ A = m)) :
    Calls Tryd.prog 42 #[.slice p n cap, .func (.func 29) #[] #[]] w fun e w' => e = .returned (.int .i64 A) ∧ Below w.heap.size w w' := by
  have HP := Lib.hid hP; have HV := Lib.hid hv; have HR := Lib.hid hr; have HC := Lib.hid hC; have HI := Lib.hid hI; have H0 := Lib.hid h0; have HL := Lib.hid hl
  clear hP hv hr hC hI h0 hl
  go_enter Tryd.func42, Tryd.ntmps42
  go_wp2
  go_loopw [8] (fun i wr => ∃ k : Nat, k ≤ m ∧ i = .int .i64 k ∧ Below w.heap.size w wr) (fun i _ => n - (intOf i).toNat)
  case atStart => exact ⟨0, Nat.zero_le _, rfl, by go_grown⟩
  case round =>
    obtain ⟨k, hk, rfl, hb⟩ := hrel
    have NB := Lib.hid hb
    by_cases hkn : k < n
    · obtain ⟨x, hx⟩ : ∃ x, l[k]? = some x := ⟨_, List.getElem?_eq_getElem (by rw [HL.out]; exact hkn)⟩
      obtain ⟨blk, off, rfl, hpc⟩ := HP.out.get hx
      have PW := Lib.hid (hpc.below hb hpc.lt)
      have C1 := Lib.hid (HC.out x (List.mem_of_getElem? hx))
      have IW := Lib.hid (HI.out _ _ H0.out hb)
      have HX := Lib.hid hx
      have hkd : decide ((k : Int) < (n : Int)) = true := by simp; omega
      have q0 := PW.out.1; have q1 := PW.out.2
      have zb := PW.out.lt
      clear hb hpc hx
      by_cases hin : P x = true
      · have hE : A = k := by
          rcases HR.out with h | ⟨y, h1, h2, h3⟩
          · rw [HV.out k x (by omega) HX.out] at hin; cases hin
          · rcases (show k < m ∨ k = m by omega) with g | g
            · rw [HV.out k x g HX.out] at hin; cases hin
            · subst g; exact h3
        subst hE
        rw [hin] at C1
        clear hin
        go_wp2_with fail
        refine (C1.out _ IW.out).mono ?_
        rintro e w' ⟨rfl, hb⟩
        have MB : Hid (Below w.heap.size w w') := NB.out.trans (hb.mono NB.out.size)
        clear hb
        go_wp2
        go_ret
        exact ⟨rfl, MB.out⟩
      · have hin2 : P x = false := by simpa using hin
        have hkm : k < m := by
          rcases HR.out with h | ⟨y, h1, h2, h3⟩
          · omega
          · rcases (show k < m ∨ k = m by omega) with g | g
            · exact g
            · subst g
              obtain rfl : y = x := Option.some.inj (h1.symm.trans HX.out)
              exact absurd h2 hin
        rw [hin2] at C1
        clear hin hin2
        go_wp2_with fail
        refine (C1.out _ IW.out).mono ?_
        rintro e w' ⟨rfl, hb⟩
        have MB : Hid (Below w.heap.size w w') := NB.out.trans (hb.mono NB.out.size)
        clear hb
        go_wp2
        go_roundw
        case rel => exact ⟨k + 1, by omega, by go_num, MB.out⟩
        case measure => simp [intOf]; omega
    · have hkd : decide ((k : Int) < (n : Int)) = false := by simp; omega
      have hE : A = -1 := by
        rcases HR.out with h | ⟨y, h1, _⟩
        · exact h.2
        · have := (List.getElem?_eq_some_iff.1 h1).1
          rw [HL.out] at this
          omega
      subst hE
      go_wp2
      go_ret
      exact ⟨rfl, NB.out⟩

set_option maxRecDepth 100000 in
set_option maxHeartbeats 4000000 in
theorem CF_87 (p : Option Addr) (n cap : Nat) (l : List Pr)  (P : Pr → Bool) (Inv : World → Prop) (hI : ∀ w w' : World, Inv w → Below w.heap.size w w' → Inv w')
    (hC : ∀ x ∈ l, ∀ w : World, Inv w → Calls Tryd.prog 29 #[.agg #[.string x.c, .string x.t]] w fun e w' => e = .returned (.bool (P x)) ∧ Below w.heap.size w w')
    (w : World) (hP : PrsAt w p l) (h0 : Inv w) (hl : l.length = n) (hn : (n : Int) ≤ 4398046511104) :
    Calls Tryd.prog 26 #[.slice p n cap, .func (.func 29) #[] #[]] w fun e w' => e = .returned (.bool (l.any P)) ∧ Below w.heap.size w w' := by
  rcases first_pr P l with ⟨h1, h2⟩ | ⟨m, x, h1, h2, h3, h4, h5⟩
  · have C := Lib.hid (IF_87 p n cap n l  P Inv hI hC w hP h0 hl hn (Nat.le_refl _) (fun i x _ hx => h1 x (List.mem_of_getElem? hx)) (-1) (.inl ⟨rfl, rfl⟩))
    rw [h2]
    clear hI hC hP h0 hl h1 h2
    go_enter Tryd.func26, Tryd.ntmps26
    go_wp2_with fail
    refine C.out.mono ?_
    rintro e w' ⟨rfl, hb⟩
    go_wp2_with fail
    go_ret
    exact ⟨rfl, hb⟩
  · have C := Lib.hid (IF_87 p n cap m l  P Inv hI hC w hP h0 hl hn (by have := (List.getElem?_eq_some_iff.1 h1).1; omega) h3 m (.inr ⟨x, h1, h2, rfl⟩))
    rw [h4]
    have e : decide ((m : Int) ≥ 0) = true := by simp
    clear hI hC hP h0 hl h1 h2 h3 h4 h5
    go_enter Tryd.func26, Tryd.ntmps26
    go_wp2_with fail
    refine C.out.mono ?_
    rintro e w' ⟨rfl, hb⟩
    go_wp2_with fail
    go_ret
    exact ⟨rfl, hb⟩

set_option maxRecDepth 100000 in
set_option maxHeartbeats 4000000 in
theorem IF_88 (p : Option Addr) (n cap m : Nat) (l : List Pr)  (P : Pr → Bool) (Inv : World → Prop) (hI : ∀ w w' : World, Inv w → Below w.heap.size w w' → Inv w')
    (hC : ∀ x ∈ l, ∀ w : World, Inv w → Calls Tryd.prog 31 #[.agg #[.string x.c, .string x.t]] w fun e w' => e = .returned (.bool (P x)) ∧ Below w.heap.size w w')
    (w : World) (hP : PrsAt w p l) (h0 : Inv w) (hl : l.length = n) (hn : (n : Int) ≤ 4398046511104) (hm : m ≤ n) (hv : ∀ (i : Nat) x, i < m → l[i]? = some x → P x = false) (A : Int) (hr : (m = n ∧ A = -1) ∨ (∃ x, l[m]? = some x ∧ P x = true ∧ A = m)) :
    Calls Tryd.prog 42 #[.slice p n cap, .func (.func 31) #[] #[]] w fun e w' => e = .returned (.int .i64 A) ∧ Below w.heap.size w w' := by
  have HP := Lib.hid hP; have HV := Lib.hid hv; have HR := Lib.hid hr; have HC := Lib.hid hC; have HI := Lib.hid hI; have H0 := Lib.hid h0; have HL := Lib.hid hl
  clear hP hv hr hC hI h0 hl
  go_enter Tryd.func42, Tryd.ntmps42
  go_wp2
  go_loopw [8] (fun i wr => ∃ k : Nat, k ≤ m ∧ i = .int .i64 k ∧ Below w.heap.size w wr) (fun i _ => n - (intOf i).toNat)
  case atStart => exact ⟨0, Nat.zero_le _, rfl, by go_grown⟩
  case round =>
    obtain ⟨k, hk, rfl, hb⟩ := hrel
    have NB := Lib.hid hb
    by_cases hkn : k < n
    · obtain ⟨x, hx⟩ : ∃ x, l[k]? = some x := ⟨_, List.getElem?_eq_getElem (by rw [HL.out]; exact hkn)⟩
      obtain ⟨blk, off, rfl, hpc⟩ := HP.out.get hx
      have PW := Lib.hid (hpc.below hb hpc.lt)
      have C1 := Lib.hid (HC.out x (List.mem_of_getElem? hx))
      have IW := Lib.hid (HI.out _ _ H0.out hb)
      have HX := Lib.hid hx
      have hkd : decide ((k : Int) < (n : Int)) = true := by simp; omega
      have q0 := PW.out.1; have q1 := PW.out.2
      have zb := PW.out.lt
      clear hb hpc hx
      by_cases hin : P x = true
      · have hE : A = k := by
          rcases HR.out with h | ⟨y, h1, h2, h3⟩
          · rw [HV.out k x (by omega) HX.out] at hin; cases hin
          · rcases (show k < m ∨ k = m by omega) with g | g
            · rw [HV.out k x g HX.out] at hin; cases hin
            · subst g; exact h3
        subst hE
        rw [hin] at C1
        clear hin
        go_wp2_with fail
        refine (C1.out _ IW.out).mono ?_
        rintro e w' ⟨rfl, hb⟩
        have MB : Hid (Below w.heap.size w w') := NB.out.trans (hb.mono NB.out.size)
        clear hb
        go_wp2
        go_ret
        exact ⟨rfl, MB.out⟩
      · have hin2 : P x = false := by simpa using hin
        have hkm : k < m := by
          rcases HR.out with h | ⟨y, h1, h2, h3⟩
          · omega
          · rcases (show k < m ∨ k = m by omega) with g | g
            · exact g
            · subst g
              obtain rfl : y = x := Option.some.inj (h1.symm.trans HX.out)
              exact absurd h2 hin
        rw [hin2] at C1
        clear hin hin2
        go_wp2_with fail
        refine (C1.out _ IW.out).mono ?_
        rintro e w' ⟨rfl, hb⟩
        have MB : Hid (Below w.heap.size w w') := NB.out.trans (hb.mono NB.out.size)
        clear hb
        go_wp2
        go_roundw
        case rel => exact ⟨k + 1, by omega, by go_num, MB.out⟩
        case measure => simp [intOf]; omega
    · have hkd : decide ((k : Int) < (n : Int)) = false := by simp; omega
      have hE : A = -1 := by
        rcases HR.out with h | ⟨y, h1, _⟩
        · exact h.2
        · have := (List.getElem?_eq_some_iff.1 h1).1
          rw [HL.out] at this
          omega
      subst hE
      go_wp2
      go_ret
      exact ⟨rfl, NB.out⟩

set_option maxRecDepth 100000 in
set_option maxHeartbeats 4000000 in
theorem CF_88 (p : Option Addr) (n cap : Nat) (l : List Pr)  (P : Pr → Bool) (Inv : World → Prop) (hI : ∀ w w' : World, Inv w → Below w.heap.size w w' → Inv w')
    (hC : ∀ x ∈ l, ∀ w : World, Inv w → Calls Tryd.prog 31 #[.agg #[.string x.c, .string x.t]] w fun e w' => e = .returned (.bool (P x)) ∧ Below w.heap.size w w')
    (w : World) (hP : PrsAt w p l) (h0 : Inv w) (hl : l.length = n) (hn : (n : Int) ≤ 4398046511104) :
    Calls Tryd.prog 26 #[.slice p n cap, .func (.func 31) #[] #[]] w fun e w' => e = .returned (.bool (l.any P)) ∧ Below w.heap.size w w' := by
  rcases first_pr P l with ⟨h1, h2⟩ | ⟨m, x, h1, h2, h3, h4, h5⟩
  · have C := Lib.hid (IF_88 p n cap n l  P Inv hI hC w hP h0 hl hn (Nat.le_refl _) (fun i x _ hx => h1 x (List.mem_of_getElem? hx)) (-1) (.inl ⟨rfl, rfl⟩))
    rw [h2]
    clear hI hC hP h0 hl h1 h2
    go_enter Tryd.func26, Tryd.ntmps26
    go_wp2_with fail
    refine C.out.mono ?_
    rintro e w' ⟨rfl, hb⟩
    go_wp2_with fail
    go_ret
    exact ⟨rfl, hb⟩
  · have C := Lib.hid (IF_88 p n cap m l  P Inv hI hC w hP h0 hl hn (by have := (List.getElem?_eq_some_iff.1 h1).1; omega) h3 m (.inr ⟨x, h1, h2, rfl⟩))
    rw [h4]
    have e : decide ((m : Int) ≥ 0) = true := by simp
    clear hI hC hP h0 hl h1 h2 h3 h4 h5
    go_enter Tryd.func26, Tryd.ntmps26
    go_wp2_with fail
    refine C.out.mono ?_
    rintro e w' ⟨rfl, hb⟩
    go_wp2_with fail
    go_ret
    exact ⟨rfl, hb⟩

set_option maxRecDepth 100000 in
set_option maxHeartbeats 4000000 in
theorem IF_90 (p : Option Addr) (n cap m : Nat) (l : List Pr) (b1 : Nat) (P : Pr → Bool) (Inv : World → Prop) (hI : ∀ w w' : World, Inv w → Below w.heap.size w w' → Inv w')
    (hC : ∀ x ∈ l, ∀ w : World, Inv w → Calls Tryd.prog 33 #[.agg #[.string x.c, .string x.t], .pointer (some ⟨b1, 0, none⟩)] w fun e w' => e = .returned (.bool (P x)) ∧ Below w.heap.size w w')
    (w : World) (hP : PrsAt w p l) (h0 : Inv w) (hl : l.length = n) (hn : (n : Int) ≤ 4398046511104) (hm : m ≤ n) (hv : ∀ (i : Nat) x, i < m → l[i]? = some x → P x = false) (A : Int) (hr : (m = n ∧ A = -1) ∨ (∃ x, l[m]? = some x ∧ P x = true ∧ A = m)) :
    Calls Tryd.prog 42 #[.slice p n cap, .func (.func 33) #[] #[.pointer (some ⟨b1, 0, none⟩)]] w fun e w' => e = .returned (.int .i64 A) ∧ Below w.heap.size w w' := by
  have HP := Lib.hid hP; have HV := Lib.hid hv; have HR := Lib.hid hr; have HC := Lib.hid hC; have HI := Lib.hid hI; have H0 := Lib.hid h0; have HL := Lib.hid hl
  clear hP hv hr hC hI h0 hl
  go_enter Tryd.func42, Tryd.ntmps42
  go_wp2
  go_loopw [8] (fun i wr => ∃ k : Nat, k ≤ m ∧ i = .int .i64 k ∧ Below w.heap.size w wr) (fun i _ => n - (intOf i).toNat)
  case atStart => exact ⟨0, Nat.zero_le _, rfl, by go_grown⟩
  case round =>
    obtain ⟨k, hk, rfl, hb⟩ := hrel
    have NB := Lib.hid hb
    by_cases hkn : k < n
    · obtain ⟨x, hx⟩ : ∃ x, l[k]? = some x := ⟨_, List.getElem?_eq_getElem (by rw [HL.out]; exact hkn)⟩
      obtain ⟨blk, off, rfl, hpc⟩ := HP.out.get hx
      have PW := Lib.hid (hpc.below hb hpc.lt)
      have C1 := Lib.hid (HC.out x (List.mem_of_getElem? hx))
      have IW := Lib.hid (HI.out _ _ H0.out hb)
      have HX := Lib.hid hx
      have hkd : decide ((k : Int) < (n : Int)) = true := by simp; omega
      have q0 := PW.out.1; have q1 := PW.out.2
      have zb := PW.out.lt
      clear hb hpc hx
      by_cases hin : P x = true
      · have hE : A = k := by
          rcases HR.out with h | ⟨y, h1, h2, h3⟩
          · rw [HV.out k x (by omega) HX.out] at hin; cases hin
          · rcases (show k < m ∨ k = m by omega) with g | g
            · rw [HV.out k x g HX.out] at hin; cases hin
            · subst g; exact h3
        subst hE
        rw [hin] at C1
        clear hin
        go_wp2_with fail
        refine (C1.out _ IW.out).mono ?_
        rintro e w' ⟨rfl, hb⟩
        have MB : Hid (Below w.heap.size w w') := NB.out.trans (hb.mono NB.out.size)
        clear hb
        go_wp2
        go_ret
        exact ⟨rfl, MB.out⟩
      · have hin2 : P x = false := by simpa using hin
        have hkm : k < m := by
          rcases HR.out with h | ⟨y, h1, h2, h3⟩
          · omega
          · rcases (show k < m ∨ k = m by omega) with g | g
            · exact g
            · subst g
              obtain rfl : y = x := Option.some.inj (h1.symm.trans HX.out)
              exact absurd h2 hin
        rw [hin2] at C1
        clear hin hin2
        go_wp2_with fail
        refine (C1.out _ IW.out).mono ?_
        rintro e w' ⟨rfl, hb⟩
        have MB : Hid (Below w.heap.size w w') := NB.out.trans (hb.mono NB.out.size)
        clear hb
        go_wp2
        go_roundw
        case rel => exact ⟨k + 1, by omega, by go_num, MB.out⟩
        case measure => simp [intOf]; omega
    · have hkd : decide ((k : Int) < (n : Int)) = false := by simp; omega
      have hE : A = -1 := by
        rcases HR.out with h | ⟨y, h1, _⟩
        · exact h.2
        · have := (List.getElem?_eq_some_iff.1 h1).1
          rw [HL.out] at this
          omega
      subst hE
      go_wp2
      go_ret
      exact ⟨rfl, NB.out⟩

set_option maxRecDepth 100000 in
set_option maxHeartbeats 4000000 in
theorem CF_90 (p : Option Addr) (n cap : Nat) (l : List Pr) (b1 : Nat) (P : Pr → Bool) (Inv : World → Prop) (hI : ∀ w w' : World, Inv w → Below w.heap.size w w' → Inv w')
    (hC : ∀ x ∈ l, ∀ w : World, Inv w → Calls Tryd.prog 33 #[.agg #[.string x.c, .string x.t], .pointer (some ⟨b1, 0, none⟩)] w fun e w' => e = .returned (.bool (P x)) ∧ Below w.heap.size w w')
    (w : World) (hP : PrsAt w p l) (h0 : Inv w) (hl : l.length = n) (hn : (n : Int) ≤ 4398046511104) :
    Calls Tryd.prog 26 #[.slice p n cap, .func (.func 33) #[] #[.pointer (some ⟨b1, 0, none⟩)]] w fun e w' => e = .returned (.bool (l.any P)) ∧ Below w.heap.size w w' := by
  rcases first_pr P l with ⟨h1, h2⟩ | ⟨m, x, h1, h2, h3, h4, h5⟩
  · have C := Lib.hid (IF_90 p n cap n l b1 P Inv hI hC w hP h0 hl hn (Nat.le_refl _) (fun i x _ hx => h1 x (List.mem_of_getElem? hx)) (-1) (.inl ⟨rfl, rfl⟩))
    rw [h2]
    clear hI hC hP h0 hl h1 h2
    go_enter Tryd.func26, Tryd.ntmps26
    go_wp2_with fail
    refine C.out.mono ?_
    rintro e w' ⟨rfl, hb⟩
    go_wp2_with fail
    go_ret
    exact ⟨rfl, hb⟩
  · have C := Lib.hid (IF_90 p n cap m l b1 P Inv hI hC w hP h0 hl hn (by have := (List.getElem?_eq_some_iff.1 h1).1; omega) h3 m (.inr ⟨x, h1, h2, rfl⟩))
    rw [h4]
    have e : decide ((m : Int) ≥ 0) = true := by simp
    clear hI hC hP h0 hl h1 h2 h3 h4 h5
    go_enter Tryd.func26, Tryd.ntmps26
    go_wp2_with fail
    refine C.out.mono ?_
    rintro e w' ⟨rfl, hb⟩
    go_wp2_with fail
    go_ret
    exact ⟨rfl, hb⟩

set_option maxRecDepth 100000 in
set_option maxHeartbeats 4000000 in
theorem IF_94 (p : Option Addr) (n cap m : Nat) (l : List Pr) (b1 b2 : Nat) (P : Pr → Bool) (Inv : World → Prop) (hI : ∀ w w' : World, Inv w → Below w.heap.size w w' → Inv w')
    (hC : ∀ x ∈ l, ∀ w : World, Inv w → Calls Tryd.prog 38 #[.agg #[.string x.c, .string x.t], .pointer (some ⟨b1, 0, none⟩), .pointer (some ⟨b2, 0, none⟩)] w fun e w' => e = .returned (.bool (P x)) ∧ Below w.heap.size w w')
    (w : World) (hP : PrsAt w p l) (h0 : Inv w) (hl : l.length = n) (hn : (n : Int) ≤ 4398046511104) (hm : m ≤ n) (hv : ∀ (i : Nat) x, i < m → l[i]? = some x → P x = false) (A : Int) (hr : (m = n ∧ A = -1) ∨ (∃ x, l[m]? = some x ∧ P x = true ∧ A = m)) :
    Calls Tryd.prog 42 #[.slice p n cap, .func (.func 38) #[] #[.pointer (some ⟨b1, 0, none⟩), .pointer (some ⟨b2, 0, none⟩)]] w fun e w' => e = .returned (.int .i64 A) ∧ Below w.heap.size w w' := by
  have HP := Lib.hid hP; have HV := Lib.hid hv; have HR := Lib.hid hr; have HC := Lib.hid hC; have HI := Lib.hid hI; have H0 := Lib.hid h0; have HL := Lib.hid hl
  clear hP hv hr hC hI h0 hl
  go_enter Tryd.func42, Tryd.ntmps42
  go_wp2
  go_loopw [8] (fun i wr => ∃ k : Nat, k ≤ m ∧ i = .int .i64 k ∧ Below w.heap.size w wr) (fun i _ => n - (intOf i).toNat)
  case atStart => exact ⟨0, Nat.zero_le _, rfl, by go_grown⟩
  case round =>
    obtain ⟨k, hk, rfl, hb⟩ := hrel
    have NB := Lib.hid hb
    by_cases hkn : k < n
    · obtain ⟨x, hx⟩ : ∃ x, l[k]? = some x := ⟨_, List.getElem?_eq_getElem (by rw [HL.out]; exact hkn)⟩
      obtain ⟨blk, off, rfl, hpc⟩ := HP.out.get hx
      have PW := Lib.hid (hpc.below hb hpc.lt)
      have C1 := Lib.hid (HC.out x (List.mem_of_getElem? hx))
      have IW := Lib.hid (HI.out _ _ H0.out hb)
      have HX := Lib.hid hx
      have hkd : decide ((k : Int) < (n : Int)) = true := by simp; omega
      have q0 := PW.out.1; have q1 := PW.out.2
      have zb := PW.out.lt
      clear hb hpc hx
      by_cases hin : P x = true
      · have hE : A = k := by
          rcases HR.out with h | ⟨y, h1, h2, h3⟩
          · rw [HV.out k x (by omega) HX.out] at hin; cases hin
          · rcases (show k < m ∨ k = m by omega) with g | g
            · rw [HV.out k x g HX.out] at hin; cases hin
            · subst g; exact h3
        subst hE
        rw [hin] at C1
        clear hin
        go_wp2_with fail
        refine (C1.out _ IW.out).mono ?_
        rintro e w' ⟨rfl, hb⟩
        have MB : Hid (Below w.heap.size w w') := NB.out.trans (hb.mono NB.out.size)
        clear hb
        go_wp2
        go_ret
        exact ⟨rfl, MB.out⟩
      · have hin2 : P x = false := by simpa using hin
        have hkm : k < m := by
          rcases HR.out with h | ⟨y, h1, h2, h3⟩
          · omega
          · rcases (show k < m ∨ k = m by omega) with g | g
            · exact g
            · subst g
              obtain rfl : y = x := Option.some.inj (h1.symm.trans HX.out)
              exact absurd h2 hin
        rw [hin2] at C1
        clear hin hin2
        go_wp2_with fail
        refine (C1.out _ IW.out).mono ?_
        rintro e w' ⟨rfl, hb⟩
        have MB : Hid (Below w.heap.size w w') := NB.out.trans (hb.mono NB.out.size)
        clear hb
        go_wp2
        go_roundw
        case rel => exact ⟨k + 1, by omega, by go_num, MB.out⟩
        case measure => simp [intOf]; omega
    · have hkd : decide ((k : Int) < (n : Int)) = false := by simp; omega
      have hE : A = -1 := by
        rcases HR.out with h | ⟨y, h1, _⟩
        · exact h.2
        · have := (List.getElem?_eq_some_iff.1 h1).1
          rw [HL.out] at this
          omega
      subst hE
      go_wp2
      go_ret
      exact ⟨rfl, NB.out⟩

set_option maxRecDepth 100000 in
set_option maxHeartbeats 4000000 in
theorem CF_94 (p : Option Addr) (n cap : Nat) (l : List Pr) (b1 b2 : Nat) (P : Pr → Bool) (Inv : World → Prop) (hI : ∀ w w' : World, Inv w → Below w.heap.size w w' → Inv w')
    (hC : ∀ x ∈ l, ∀ w : World, Inv w → Calls Tryd.prog 38 #[.agg #[.string x.c, .string x.t], .pointer (some ⟨b1, 0, none⟩), .pointer (some ⟨b2, 0, none⟩)] w fun e w' => e = .returned (.bool (P x)) ∧ Below w.heap.size w w')
    (w : World) (hP : PrsAt w p l) (h0 : Inv w) (hl : l.length = n) (hn : (n : Int) ≤ 4398046511104) :
    Calls Tryd.prog 26 #[.slice p n cap, .func (.func 38) #[] #[.pointer (some ⟨b1, 0, none⟩), .pointer (some ⟨b2, 0, none⟩)]] w fun e w' => e = .returned (.bool (l.any P)) ∧ Below w.heap.size w w' := by
  rcases first_pr P l with ⟨h1, h2⟩ | ⟨m, x, h1, h2, h3, h4, h5⟩
  · have C := Lib.hid (IF_94 p n cap n l b1 b2 P Inv hI hC w hP h0 hl hn (Nat.le_refl _) (fun i x _ hx => h1 x (List.mem_of_getElem? hx)) (-1) (.inl ⟨rfl, rfl⟩))
    rw [h2]
    clear hI hC hP h0 hl h1 h2
    go_enter Tryd.func26, Tryd.ntmps26
    go_wp2_with fail
    refine C.out.mono ?_
    rintro e w' ⟨rfl, hb⟩
    go_wp2_with fail
    go_ret
    exact ⟨rfl, hb⟩
  · have C := Lib.hid (IF_94 p n cap m l b1 b2 P Inv hI hC w hP h0 hl hn (by have := (List.getElem?_eq_some_iff.1 h1).1; omega) h3 m (.inr ⟨x, h1, h2, rfl⟩))
    rw [h4]
    have e : decide ((m : Int) ≥ 0) = true := by simp
    clear hI hC hP h0 hl h1 h2 h3 h4 h5
    go_enter Tryd.func26, Tryd.ntmps26
    go_wp2_with fail
    refine C.out.mono ?_
    rintro e w' ⟨rfl, hb⟩
    go_wp2_with fail
    go_ret
    exact ⟨rfl, hb⟩

set_option maxRecDepth 100000 in
set_option maxHeartbeats 4000000 in
theorem IF_93 (p : Option Addr) (n cap m : Nat) (l : List Pr) (b1 b2 : Nat) (P : Pr → Bool) (Inv : World → Prop) (hI : ∀ w w' : World, Inv w → Below w.heap.size w w' → Inv w')
    (hC : ∀ x ∈ l, ∀ w : World, Inv w → Calls Tryd.prog 37 #[.agg #[.string x.c, .string x.t], .pointer (some ⟨b1, 0, none⟩), .pointer (some ⟨b2, 0, none⟩)] w fun e w' => e = .returned (.bool (P x)) ∧ Below w.heap.size w w')
    (w : World) (hP : PrsAt w p l) (h0 : Inv w) (hl : l.length = n) (hn : (n : Int) ≤ 4398046511104) (hm : m ≤ n) (hv : ∀ (i : Nat) x, i < m → l[i]? = some x → P x = false) (A : Int) (hr : (m = n ∧ A = -1) ∨ (∃ x, l[m]? = some x ∧ P x = true ∧ A = m)) :
    Calls Tryd.prog 43 #[.slice p n cap, .func (.func 37) #[] #[.pointer (some ⟨b1, 0, none⟩), .pointer (some ⟨b2, 0, none⟩)]] w fun e w' => e = .returned (.int .i64 A) ∧ Below w.heap.size w w' := by
  have HP := Lib.hid hP; have HV := Lib.hid hv; have HR := Lib.hid hr; have HC := Lib.hid hC; have HI := Lib.hid hI; have H0 := Lib.hid h0; have HL := Lib.hid hl
  clear hP hv hr hC hI h0 hl
  go_enter Tryd.func43, Tryd.ntmps43
  go_wp2
  go_loopw [8] (fun i wr => ∃ k : Nat, k ≤ m ∧ i = .int .i64 k ∧ Below w.heap.size w wr) (fun i _ => n - (intOf i).toNat)
  case atStart => exact ⟨0, Nat.zero_le _, rfl, by go_grown⟩
  case round =>
    obtain ⟨k, hk, rfl, hb⟩ := hrel
    have NB := Lib.hid hb
    by_cases hkn : k < n
    · obtain ⟨x, hx⟩ : ∃ x, l[k]? = some x := ⟨_, List.getElem?_eq_getElem (by rw [HL.out]; exact hkn)⟩
      obtain ⟨blk, off, rfl, hpc⟩ := HP.out.get hx
      have PW := Lib.hid (hpc.below hb hpc.lt)
      have C1 := Lib.hid (HC.out x (List.mem_of_getElem? hx))
      have IW := Lib.hid (HI.out _ _ H0.out hb)
      have HX := Lib.hid hx
      have hkd : decide ((k : Int) < (n : Int)) = true := by simp; omega
      have q0 := PW.out.1; have q1 := PW.out.2
      have zb := PW.out.lt
      clear hb hpc hx
      by_cases hin : P x = true
      · have hE : A = k := by
          rcases HR.out with h | ⟨y, h1, h2, h3⟩
          · rw [HV.out k x (by omega) HX.out] at hin; cases hin
          · rcases (show k < m ∨ k = m by omega) with g | g
            · rw [HV.out k x g HX.out] at hin; cases hin
            · subst g; exact h3
        subst hE
        rw [hin] at C1
        clear hin
        go_wp2_with fail
        refine (C1.out _ IW.out).mono ?_
        rintro e w' ⟨rfl, hb⟩
        have MB : Hid (Below w.heap.size w w') := NB.out.trans (hb.mono NB.out.size)
        clear hb
        go_wp2
        go_ret
        exact ⟨rfl, MB.out⟩
      · have hin2 : P x = false := by simpa using hin
        have hkm : k < m := by
          rcases HR.out with h | ⟨y, h1, h2, h3⟩
          · omega
          · rcases (show k < m ∨ k = m by omega) with g | g
            · exact g
            · subst g
              obtain rfl : y = x := Option.some.inj (h1.symm.trans HX.out)
              exact absurd h2 hin
        rw [hin2] at C1
        clear hin hin2
        go_wp2_with fail
        refine (C1.out _ IW.out).mono ?_
        rintro e w' ⟨rfl, hb⟩
        have MB : Hid (Below w.heap.size w w') := NB.out.trans (hb.mono NB.out.size)
        clear hb
        go_wp2
        go_roundw
        case rel => exact ⟨k + 1, by omega, by go_num, MB.out⟩
        case measure => simp [intOf]; omega
    · have hkd : decide ((k : Int) < (n : Int)) = false := by simp; omega
      have hE : A = -1 := by
        rcases HR.out with h | ⟨y, h1, _⟩
        · exact h.2
        · have := (List.getElem?_eq_some_iff.1 h1).1
          rw [HL.out] at this
          omega
      subst hE
      go_wp2
      go_ret
      exact ⟨rfl, NB.out⟩

set_option maxRecDepth 100000 in
set_option maxHeartbeats 4000000 in
theorem CF_93 (p : Option Addr) (n cap : Nat) (l : List Pr) (b1 b2 : Nat) (P : Pr → Bool) (Inv : World → Prop) (hI : ∀ w w' : World, Inv w → Below w.heap.size w w' → Inv w')
    (hC : ∀ x ∈ l, ∀ w : World, Inv w → Calls Tryd.prog 37 #[.agg #[.string x.c, .string x.t], .pointer (some ⟨b1, 0, none⟩), .pointer (some ⟨b2, 0, none⟩)] w fun e w' => e = .returned (.bool (P x)) ∧ Below w.heap.size w w')
    (w : World) (hP : PrsAt w p l) (h0 : Inv w) (hl : l.length = n) (hn : (n : Int) ≤ 4398046511104) :
    Calls Tryd.prog 39 #[.slice p n cap, .func (.func 37) #[] #[.pointer (some ⟨b1, 0, none⟩), .pointer (some ⟨b2, 0, none⟩)]] w fun e w' => e = .returned (.bool (l.any P)) ∧ Below w.heap.size w w' := by
  rcases first_pr P l with ⟨h1, h2⟩ | ⟨m, x, h1, h2, h3, h4, h5⟩
  · have C := Lib.hid (IF_93 p n cap n l b1 b2 P Inv hI hC w hP h0 hl hn (Nat.le_refl _) (fun i x _ hx => h1 x (List.mem_of_getElem? hx)) (-1) (.inl ⟨rfl, rfl⟩))
    rw [h2]
    clear hI hC hP h0 hl h1 h2
    go_enter Tryd.func39, Tryd.ntmps39
    go_wp2_with fail
    refine C.out.mono ?_
    rintro e w' ⟨rfl, hb⟩
    go_wp2_with fail
    go_ret
    exact ⟨rfl, hb⟩
  · have C := Lib.hid (IF_93 p n cap m l b1 b2 P Inv hI hC w hP h0 hl hn (by have := (List.getElem?_eq_some_iff.1 h1).1; omega) h3 m (.inr ⟨x, h1, h2, rfl⟩))
    rw [h4]
    have e : decide ((m : Int) ≥ 0) = true := by simp
    clear hI hC hP h0 hl h1 h2 h3 h4 h5
    go_enter Tryd.func39, Tryd.ntmps39
    go_wp2_with fail
    refine C.out.mono ?_
    rintro e w' ⟨rfl, hb⟩
    go_wp2_with fail
    go_ret
    exact ⟨rfl, hb⟩

set_option maxRecDepth 100000 in
set_option maxHeartbeats 4000000 in
theorem IF_40 (p : Option Addr) (n cap m : Nat) (l : List Pr) (b1 : Nat) (P : Pr → Bool) (Inv : World → Prop) (hI : ∀ w w' : World, Inv w → Below w.heap.size w w' → Inv w')
    (hC : ∀ x ∈ l, ∀ w : World, Inv w → Calls Tryd.prog 44 #[.agg #[.string x.c, .string x.t], .pointer (some ⟨b1, 0, none⟩)] w fun e w' => e = .returned (.bool (P x)) ∧ Below w.heap.size w w')
    (w : World) (hP : PrsAt w p l) (h0 : Inv w) (hl : l.length = n) (hn : (n : Int) ≤ 4398046511104) (hm : m ≤ n) (hv : ∀ (i : Nat) x, i < m → l[i]? = some x → P x = false) (A : Int) (hr : (m = n ∧ A = -1) ∨ (∃ x, l[m]? = some x ∧ P x = true ∧ A = m)) :
    Calls Tryd.prog 43 #[.slice p n cap, .func (.func 44) #[] #[.pointer (some ⟨b1, 0, none⟩)]] w fun e w' => e = .returned (.int .i64 A) ∧ Below w.heap.size w w' := by
  have HP := Lib.hid hP; have HV := Lib.hid hv; have HR := Lib.hid hr; have HC := Lib.hid hC; have HI := Lib.hid hI; have H0 := Lib.hid h0; have HL := Lib.hid hl
  clear hP hv hr hC hI h0 hl
  go_enter Tryd.func43, Tryd.ntmps43
  go_wp2
  go_loopw [8] (fun i wr => ∃ k : Nat, k ≤ m ∧ i = .int .i64 k ∧ Below w.heap.size w wr) (fun i _ => n - (intOf i).toNat)
  case atStart => exact ⟨0, Nat.zero_le _, rfl, by go_grown⟩
  case round =>
    obtain ⟨k, hk, rfl, hb⟩ := hrel
    have NB := Lib.hid hb
    by_cases hkn : k < n
    · obtain ⟨x, hx⟩ : ∃ x, l[k]? = some x := ⟨_, List.getElem?_eq_getElem (by rw [HL.out]; exact hkn)⟩
      obtain ⟨blk, off, rfl, hpc⟩ := HP.out.get hx
      have PW := Lib.hid (hpc.below hb hpc.lt)
      have C1 := Lib.hid (HC.out x (List.mem_of_getElem? hx))
      have IW := Lib.hid (HI.out _ _ H0.out hb)
      have HX := Lib.hid hx
      have hkd : decide ((k : Int) < (n : Int)) = true := by simp; omega
      have q0 := PW.out.1; have q1 := PW.out.2
      have zb := PW.out.lt
      clear hb hpc hx
      by_cases hin : P x = true
      · have hE : A = k := by
          rcases HR.out with h | ⟨y, h1, h2, h3⟩
          · rw [HV.out k x (by omega) HX.out] at hin; cases hin
          · rcases (show k < m ∨ k = m by omega) with g | g
            · rw [HV.out k x g HX.out] at hin; cases hin
            · subst g; exact h3
        subst hE
        rw [hin] at C1
        clear hin
        go_wp2_with fail
        refine (C1.out _ IW.out).mono ?_
        rintro e w' ⟨rfl, hb⟩
        have MB : Hid (Below w.heap.size w w') := NB.out.trans (hb.mono NB.out.size)
        clear hb
        go_wp2
        go_ret
        exact ⟨rfl, MB.out⟩
      · have hin2 : P x = false := by simpa using hin
        have hkm : k < m := by
          rcases HR.out with h | ⟨y, h1, h2, h3⟩
          · omega
          · rcases (show k < m ∨ k = m by omega) with g | g
            · exact g
            · subst g
              obtain rfl : y = x := Option.some.inj (h1.symm.trans HX.out)
              exact absurd h2 hin
        rw [hin2] at C1
        clear hin hin2
        go_wp2_with fail
        refine (C1.out _ IW.out).mono ?_
        rintro e w' ⟨rfl, hb⟩
        have MB : Hid (Below w.heap.size w w') := NB.out.trans (hb.mono NB.out.size)
        clear hb
        go_wp2
        go_roundw
        case rel => exact ⟨k + 1, by omega, by go_num, MB.out⟩
        case measure => simp [intOf]; omega
    · have hkd : decide ((k : Int) < (n : Int)) = false := by simp; omega
      have hE : A = -1 := by
        rcases HR.out with h | ⟨y, h1, _⟩
        · exact h.2
        · have := (List.getElem?_eq_some_iff.1 h1).1
          rw [HL.out] at this
          omega
      subst hE
      go_wp2
      go_ret
      exact ⟨rfl, NB.out⟩

end Go.Proofs.YtbjbioiggjhknaaDoor
