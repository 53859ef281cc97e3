/-
  At, between, follow, Follow. No statement of the seat is proved here.
-/
import Derived.Test.YtbjbioiggjhknaaDoorCk
namespace Go.Proofs.YtbjbioiggjhknaaDoor
open Go Go.RowKit

/-- A version is in force on a day. -/
def on (d : Int) (x : Pln) : Bool := decide (x.f ≤ d ∧ d < x.u)
set_option maxHeartbeats 1000000 in
theorem on68_any (x : Pln) (b : Nat) (d : Int) (w : World) (h : w.cell? ⟨b, 0, none⟩ = some (.int .i64 d)) :
    Calls Tryd.prog 21 #[x.val, .pointer (some ⟨b, 0, none⟩)] w fun e w' => e = .returned (.bool (on d x)) ∧ Below w.heap.size w w' := by
  have z := World.block_lt_of_cell? w _ h
  unfold Pln.val
  go_enter Tryd.func21, Tryd.ntmps21
  go_wp2_with fail
  refine (spHas_any _ _ _ _).mono ?_
  rintro e w' ⟨rfl, hb⟩
  have B : Hid (Below w.heap.size w w') := ((Below.refl _ _).alloc (Nat.le_refl _) _).trans (hb.mono (by simp))
  clear hb
  go_wp2_with fail
  go_ret
  exact ⟨ret_bool (by unfold on; exact (Bool.decide_and _ _).symm), B.out⟩

theorem first_pl (P : Pln → Bool) : ∀ l : List Pln, ((∀ x ∈ l, P x = false) ∧ l.findIdx? P = none) ∨ ∃ (m : Nat) (x : Pln), l[m]? = some x ∧ P x = true ∧ (∀ (i : Nat) y, i < m → l[i]? = some y → P y = false) ∧ l.findIdx? P = some m
  | [] => .inl ⟨fun _ h => (by cases h), rfl⟩
  | y :: l => by
    by_cases h : P y = true
    · exact .inr ⟨0, y, rfl, h, fun i _ hi => absurd hi (Nat.not_lt_zero _), by rw [List.findIdx?_cons, h]; rfl⟩
    · have h' : P y = false := by simpa using h
      rcases first_pl P l with ⟨h1, h2⟩ | ⟨m, x, h1, h2, h3, h4⟩
      · refine .inl ⟨fun x hx => ?_, by rw [List.findIdx?_cons, h', h2]; rfl⟩
        rcases List.mem_cons.1 hx with rfl | k
        · exact h'
        · exact h1 x k
      · refine .inr ⟨m + 1, x, by simpa using h1, h2, fun i z hi hz => ?_, by rw [List.findIdx?_cons, h', h4]; rfl⟩
        cases i with
        | zero => obtain rfl : y = z := by simpa using hz
                  exact h'
        | succ i => exact h3 i z (by omega) (by simpa using hz)
def idxV (o : Option Nat) : Int := match o with | some m => m | none => -1

set_option maxRecDepth 100000 in
set_option maxHeartbeats 4000000 in
theorem IP_68 (p : Option Addr) (n cap m : Nat) (l : List Pln) (b : Nat) (d : Int) (w : World) (hL : PlnsAt w p l) (h0 : w.cell? ⟨b, 0, none⟩ = some (.int .i64 d)) (hl : l.length = n) (hn : (n : Int) ≤ 4398046511104) (hm : m ≤ n) (hv : ∀ (i : Nat) x, i < m → l[i]? = some x → on d x = false) (A : Int) (hr : (m = n ∧ A = -1) ∨ (∃ x, l[m]? = some x ∧ on d x = true ∧ A = m)) :
    Calls Tryd.prog 20 #[.slice p n cap, .func (.func 21) #[] #[.pointer (some ⟨b, 0, none⟩)]] w fun e w' => e = .returned (.int .i64 A) ∧ Below w.heap.size w w' := by
  have HP := Lib.hid hL; have HV := Lib.hid hv; have HR := Lib.hid hr; have H0 := Lib.hid h0; have HL := Lib.hid hl
  clear hL hv hr h0 hl
  go_enter Tryd.func20, Tryd.ntmps20
  go_wp2
  go_loopw [8] (fun i wr => ∃ k : Nat, k ≤ m ∧ i = .int .i64 k ∧ Below w.heap.size w wr) (fun i _ => n - (intOf i).toNat)
  case atStart => exact ⟨0, Nat.zero_le _, rfl, by go_grown⟩
  case round =>
    obtain ⟨k, hk, rfl, hb⟩ := hrel
    have NB := Lib.hid hb
    by_cases hkn : k < n
    · obtain ⟨x, hx⟩ : ∃ x, l[k]? = some x := ⟨_, List.getElem?_eq_getElem (by rw [HL.out]; exact hkn)⟩
      obtain ⟨blk, off, rfl, hpc, hkc⟩ := HP.out.get hx
      have PW := Lib.hid (hpc.next hb)
      have C1 := Lib.hid (fun w1 (h : w1.cell? ⟨b, 0, none⟩ = some (.int .i64 d)) => on68_any x b d w1 h)
      have IW := Lib.hid (cell_next H0.out hb)
      have HX := Lib.hid hx
      have hkd : decide ((k : Int) < (n : Int)) = true := by simp; omega
      have q0 := PW.out.1; have q1 := PW.out.2.1; have q2 := PW.out.2.2.1; have q3 := PW.out.2.2.2.1; have q4 := PW.out.2.2.2.2
      have zb := PW.out.lt
      obtain ⟨P, hP⟩ : ∃ P, P = on d x := ⟨_, rfl⟩
      rw [← hP] at C1
      unfold Pln.val at C1
      have HQ := Lib.hid hP
      clear hb hpc hx hkc hP
      cases P with
      | true =>
        have hE : A = k := by
          rcases HR.out with h | ⟨y, h1, h2, h3⟩
          · exact absurd (HQ.out.trans (HV.out k x (by omega) HX.out)) (by simp)
          · rcases (show k < m ∨ k = m by omega) with g | g
            · exact absurd (HQ.out.trans (HV.out k x g HX.out)) (by simp)
            · subst g; exact h3
        subst hE
        go_wp2_with fail
        refine (C1.out _ IW.out).mono ?_
        rintro e w' ⟨rfl, hb⟩
        have MB : Hid (Below w.heap.size w w') := NB.out.trans (hb.mono NB.out.size)
        clear hb
        go_wp2
        go_ret
        exact ⟨rfl, MB.out⟩
      | false =>
        have hkm : k < m := by
          rcases HR.out with h | ⟨y, h1, h2, h3⟩
          · omega
          · rcases (show k < m ∨ k = m by omega) with g | g
            · exact g
            · subst g
              obtain rfl : y = x := Option.some.inj (h1.symm.trans HX.out)
              exact absurd (HQ.out.trans h2) (by simp)
        go_wp2_with fail
        refine (C1.out _ IW.out).mono ?_
        rintro e w' ⟨rfl, hb⟩
        have MB : Hid (Below w.heap.size w w') := NB.out.trans (hb.mono NB.out.size)
        clear hb
        go_wp2
        go_roundw
        case rel => exact ⟨k + 1, by omega, by go_num, MB.out⟩
        case measure => simp [intOf]; omega
    · have hkd : decide ((k : Int) < (n : Int)) = false := by simp; omega
      have hE : A = -1 := by
        rcases HR.out with h | ⟨y, h1, _⟩
        · exact h.2
        · have := (List.getElem?_eq_some_iff.1 h1).1
          rw [HL.out] at this
          omega
      subst hE
      go_wp2
      go_ret
      exact ⟨rfl, NB.out⟩

theorem Idx68_any (p : Option Addr) (n cap : Nat) (l : List Pln) (b : Nat) (d : Int) (w : World) (hL : PlnsAt w p l) (h0 : w.cell? ⟨b, 0, none⟩ = some (.int .i64 d)) (hl : l.length = n) (hn : (n : Int) ≤ 4398046511104) :
    Calls Tryd.prog 20 #[.slice p n cap, .func (.func 21) #[] #[.pointer (some ⟨b, 0, none⟩)]] w fun e w' => e = .returned (.int .i64 (idxV (l.findIdx? (on d)))) ∧ Below w.heap.size w w' := by
  rcases first_pl (on d) l with ⟨h1, h2⟩ | ⟨m, x, h1, h2, h3, h4⟩
  · rw [h2]
    exact IP_68 p n cap n l b d w hL h0 hl hn (Nat.le_refl _) (fun i x _ hx => h1 x (List.mem_of_getElem? hx)) _ (.inl ⟨rfl, rfl⟩)
  · rw [h4]
    exact IP_68 p n cap m l b d w hL h0 hl hn (by have := (List.getElem?_eq_some_iff.1 h1).1; omega) h3 _ (.inr ⟨x, h1, h2, rfl⟩)

set_option maxRecDepth 100000 in
set_option maxHeartbeats 4000000 in
theorem At_any (p : Option Addr) (n cap : Nat) (l : List Pln) (d : Int) (w : World) (hE : Env w) (hL : PlnsAt w p l) (hl : l.length = n) (hc : n ≤ cap) (hF : ∀ y ∈ l, Fit y) (I E : Int) (h : ChkIs l I E) (hn : (n : Int) ≤ 4398046511104) :
    Calls Tryd.prog 11 #[.slice p n cap, .int .i64 d] w fun e w' => e = .returned (.int .i64 (if E = 0 then idxV (l.findIdx? (on d)) else -1)) ∧ Below w.heap.size w w' := by
  have B1 : Hid (Below w.heap.size w (w.alloc (.cells #[.int .i64 d] 3))) := (Below.refl _ _).alloc (Nat.le_refl _) _
  have C1 := Lib.hid (Check_any p n cap l _ (hE.below B1.out) (hL.next B1.out) hl hc hF I E h)
  have X1 : Hid ((w.alloc (.cells #[.int .i64 d] 3)).cell? ⟨w.heap.size, 0, none⟩ = some (.int .i64 d)) := World.cell?_alloc_new w _ 3 0
  have C2 := Lib.hid (fun w1 (h1 : Below w.heap.size w w1) h2 => Idx68_any p n cap l w.heap.size d w1 (hL.next h1) h2 hl hn)
  obtain ⟨A, hA⟩ : ∃ A, A = idxV (l.findIdx? (on d)) := ⟨_, rfl⟩
  rw [← hA] at C2 ⊢
  clear hE hL hl hc hF h hA
  by_cases hz : E = 0
  · have d1 : (E != 0) = false := by simp [hz]
    rw [if_pos hz]
    clear hz
    go_enter Tryd.func11, Tryd.ntmps11
    go_wp2_with fail
    refine C1.out.mono ?_
    rintro e w2 ⟨rfl, hb⟩
    have B2 : Hid (Below w.heap.size w w2) := B1.out.trans (hb.mono B1.out.size)
    have X2 := Lib.hid (cell_next X1.out hb)
    clear hb
    go_wp2_with fail
    refine (C2.out _ B2.out X2.out).mono ?_
    rintro e w3 ⟨rfl, hb⟩
    have B3 : Hid (Below w.heap.size w w3) := B2.out.trans (hb.mono B2.out.size)
    clear hb
    go_wp2_with fail
    go_ret
    exact ⟨rfl, B3.out⟩
  · have d1 : (E != 0) = true := by simp [hz]
    rw [if_neg hz]
    clear hz
    go_enter Tryd.func11, Tryd.ntmps11
    go_wp2_with fail
    refine C1.out.mono ?_
    rintro e w2 ⟨rfl, hb⟩
    have B2 : Hid (Below w.heap.size w w2) := B1.out.trans (hb.mono B1.out.size)
    clear hb
    go_wp2_with fail
    go_ret
    exact ⟨rfl, B2.out⟩

end Go.Proofs.YtbjbioiggjhknaaDoor
