/-
  End, for any list of offices. No statement of the seat is proved here.
-/
import Derived.Test.YtchaihdbljkphaaEd1
namespace Go.Proofs.Ytchaihdbljkphaa
open Go Go.RowKit Go.Maps Go.Joins

abbrev canE (f u d : Int) : Prop := f < d ∧ d ≤ u
set_option maxHeartbeats 1000000 in
theorem CanEnd_any (f u d : Int) (w : World) :
    Calls Try.prog 40 #[.agg #[.int .i64 f, .int .i64 u], .int .i64 d] w fun e w' => e = .returned (.bool (decide (canE f u d))) ∧ Below w.heap.size w w' := by
  go_enter Try.func40, Try.ntmps40
  go_wp2
  all_goals
    go_ret
    refine ⟨ret_bool ?_, by go_grown⟩
    first | rfl | (apply Bool.eq_iff_iff.2; constructor <;> intro h9 <;> (try simp at *) <;> omega)
theorem FitO.eq {a b : Off} (h : EqO a b) (hf : FitO a) : FitO b := by
  obtain ⟨h1, h2, h3, h4, h5⟩ := h
  obtain ⟨f1, f2, f3, f4, f5, f6⟩ := hf
  refine ⟨h1 ▸ f1, h3 ▸ f2, h4 ▸ f3, ?_, ?_, h2 ▸ f6⟩
  · rw [← h5]; exact f4
  · rw [← h5]; exact f5
/-- The list in which an office ends. -/
def endL (l : List Off) (k : Nat) (x : Off) (d : Int) (nx : List Int) : List Off := l.set k { x with un := d, nx := nx }
/-- What End answers: an error, or the list. -/
def EndA (l : List Off) (id d : Int) (nx : List Int) (n : Nat) (w : World) (e : Ending) (w' : World) : Prop :=
  ((∃ c, e = .returned (.tuple #[.slice none 0 0, .int .i64 c]) ∧ c ≠ 0) ∨
    ∃ g cap m k x, e = .returned (.tuple #[.slice (some ⟨g, 0, none⟩) n cap, .int .i64 0]) ∧ GoodO l ∧ fnd l id = some x ∧ l[k]? = some x ∧ x.fr < d ∧ d ≤ x.un ∧ Cpy w' g (endL l k x d nx) m ∧ (∀ y ∈ m, FitO y) ∧ GoodO m) ∧ Below w.heap.size w w'
theorem endA_no {l : List Off} {id d : Int} {nx : List Int} {n : Nat} {w w' : World} {e : Ending} {c : Int} (h : e = .returned (.tuple #[.slice none 0 0, .int .i64 c])) (hc : c ≠ 0) (hb : Below w.heap.size w w') : EndA l id d nx n w e w' := ⟨.inl ⟨c, h, hc⟩, hb⟩

set_option maxRecDepth 100000 in
set_option maxHeartbeats 8000000 in
theorem End_any (p : Option Addr) (n c : Nat) (l : List Off) (id d : Int) (q : Option Addr) (cq : Nat) (nx : List Int) (w : World) (hE : Env w) (hL : OffsAt w p l) (hl : l.length = n) (hF : ∀ x ∈ l, FitO x) (hn : n ≤ 1000) (hd : I64 d)
    (hN : IntsAt w q nx) (hN2 : ∀ y ∈ nx, I64 y) (hN3 : nx.length * 8 ≤ 140737488355328) :
    Calls Try.prog 20 #[.slice p n c, .int .i64 id, .int .i64 d, .slice q nx.length cq] w fun e w' => EndA l id d nx n w e w' := by
  have HL := Lib.hid hl
  have EV := Lib.hid (fun (v : World) (h : Below w.heap.size w v) => hE.below h)
  have LV := Lib.hid (fun (v : World) (h : Below w.heap.size w v) => hL.next h)
  have NV := Lib.hid (fun (v : World) (h : Below w.heap.size w v) => hN.next h)
  have FF := Lib.hid hF
  have HD := Lib.hid hd
  have H2 := Lib.hid hN2; have H3 := Lib.hid hN3
  obtain ⟨I, E, hIE⟩ := ochk_ex l
  have CK := Lib.hid (Check_any p n c l w hE hL hl hF I E hIE)
  have CI := Lib.hid hIE
  have FD := Lib.hid (fun z v h => Find_any p n c l z v (LV.out v h) hl hn)
  have GO : Hid (∀ (g cap : Nat) (m : List Off) (I2 E2 : Int) (v : World), Below w.heap.size w v → Cpy v g l m → True) := fun _ _ _ _ _ _ _ _ => trivial
  obtain ⟨mx, hmx⟩ : ∃ mx, nx.length = mx := ⟨_, rfl⟩
  rw [hmx]
  have HMX := Lib.hid hmx
  clear hE hL hl hF hIE hd hN hN2 hN3 hmx GO
  go_enter Try.func20, Try.ntmps20
  go_wp2_with fail
  refine CK.out.mono ?_
  rintro e w1 ⟨rfl, hb⟩
  have N1 := Lib.hid hb
  clear hb CK
  by_cases hz : E = 0
  case neg =>
    have d1 : (E != 0) = true := by simp [hz]
    clear hz
    go_wp2_with fail
    go_ret2
    exact endA_no rfl (by decide) N1.out
  have d1 : (E != 0) = false := by simp [hz]
  subst hz
  have GG := Lib.hid CI.out.good.1
  go_wp2_with fail
  refine (FD.out id _ N1.out).mono ?_
  rintro e w2 ⟨rfl, hb⟩
  have N2 := Lib.hid (N1.out.trans (hb.mono N1.out.size))
  clear hb
  cases hf : fnd l id with
  | none =>
    have d2 : decide ((-1 : Int) < 0) = true := rfl
    rw [fixV_none hf]
    clear hf
    go_wp2_with fail
    go_ret2
    exact endA_no rfl (by decide) N2.out
  | some x =>
  obtain ⟨k, hk, hlk, hkn⟩ := fixV_some hf
  rw [hk]
  have kn : k < n := by rw [← HL.out]; exact hkn
  have dk : decide ((k : Int) < 0) = false := decide_eq_false (by omega)
  obtain ⟨pb, po, hpp, ha, _⟩ := (LV.out w2 N2.out).get hlk
  subst hpp
  have p2 := ha.2.2.1; have p3 := ha.2.2.2.1
  have zb := ha.lt
  have k1 : (0 : Int) ≤ (k : Int) := by omega
  have k2 : (k : Int) < (n : Int) := by omega
  have HX := Lib.hid hf; have HK := Lib.hid hlk
  clear hf hk hlk hkn ha
  go_wp2_with fail
  refine (CanEnd_any _ _ _ _).mono ?_
  rintro e w3 ⟨rfl, hb⟩
  have N3 := Lib.hid (N2.out.trans (hb.mono N2.out.size))
  clear hb p2 p3 zb
  by_cases hc : canE x.fr x.un d
  case neg =>
    rw [decide_eq_false hc]
    clear hc
    go_wp2_with fail
    go_ret2
    exact endA_no rfl (by decide) N3.out
  rw [decide_eq_true hc]
  have HC := Lib.hid hc
  have LI := Lib.hid (list_any pb po n c l w3 (LV.out w3 N3.out) HL.out (by omega) hn FF.out)
  clear hc
  go_wp2_with fail
  refine LI.out.mono ?_
  rintro e w4 ⟨g, cap, m, rfl, hC, hg, hb⟩
  have N4 := Lib.hid (N3.out.trans (hb.mono N3.out.size))
  have C4 := Lib.hid hC
  have HG : Hid (w.heap.size ≤ g) := Nat.le_trans N3.out.size hg
  clear hC hb hg LI
  obtain ⟨y, hy, he⟩ := C4.out.at_ HK.out
  have HY := Lib.hid hy; have HE := Lib.hid he
  have f3 := (C4.out.own.2 k y hy 3 _ rfl).2
  have q3 := (C4.out.own.2 k y hy 3 _ rfl).1
  have zb := C4.out.own.1
  clear hy he
  have C5 : Hid (Cpy (w4.setCell ⟨g, k * 5 + 3, none⟩ (.int .i64 d)) g (l.set k { x with un := d }) (m.set k { y with un := d })) :=
    C4.out.put HY.out (i := 3) (x' := { y with un := d }) (by omega) rfl (C4.out.nxs y (List.mem_of_getElem? HY.out)) (by simp) (fun j a hj ha => by
      rw [List.getElem?_set, if_neg (fun e => hj e.symm)] at ha
      exact ha) (fun a ha => by
      rw [List.getElem?_set, if_pos rfl] at ha
      split at ha
      · obtain rfl := Option.some.inj ha
        exact ⟨HE.out.1, HE.out.2.1, HE.out.2.2.1, rfl, HE.out.2.2.2.2⟩
      · cases ha)
  have N5 : Hid (Below w.heap.size w (w4.setCell ⟨g, k * 5 + 3, none⟩ (.int .i64 d))) := N4.out.setCell HG.out _
  go_wp2_with fail
  obtain ⟨w5, hw5⟩ : ∃ w5, w5 = w4.setCell ⟨g, k * 5 + 3, none⟩ (.int .i64 d) := ⟨_, rfl⟩
  rw [← hw5] at C5 N5 ⊢
  clear hw5 f3 q3 zb C4 N4
  have CL := clone_ints q nx cq w5 (NV.out w5 N5.out) H3.out
  rw [HMX.out] at CL
  refine CL.mono ?_
  rintro e w6 ⟨qn, dn, rfl, hI, hq, hb⟩
  have C6 := Lib.hid (C5.out.next hb)
  have N6 := Lib.hid (N5.out.trans (hb.mono N5.out.size))
  have IQ : Hid (IntsO w6 g qn nx) := ⟨hI, hq.imp (fun h => h) fun h a ha => by have := h a ha; have := C5.out.own.1; omega⟩
  clear hI hq hb CL C5 N5
  have mk : (m.set k { y with un := d })[k]? = some { y with un := d } := by
    rw [List.getElem?_set, if_pos rfl, if_pos (List.getElem?_eq_some_iff.1 HY.out).1]
  have f4 := (C6.out.own.2 k _ mk 4 _ rfl).2
  have q4 := (C6.out.own.2 k _ mk 4 _ rfl).1
  have zb := C6.out.own.1
  have C7 : Hid (Cpy (w6.setCell ⟨g, k * 5 + 4, none⟩ (.slice qn mx dn)) g (endL l k x d nx) ((m.set k { y with un := d }).set k { y with un := d, np := qn, nc := dn, nx := nx })) :=
    C6.out.put mk (i := 4) (x' := { y with un := d, np := qn, nc := dn, nx := nx }) (by omega) (by rw [← HMX.out]; rfl) IQ.out (by unfold endL; simp) (fun j a hj ha => by
      unfold endL at ha
      rw [List.getElem?_set, if_neg (fun e => hj e.symm)] at ha
      rw [List.getElem?_set, if_neg (fun e => hj e.symm)]
      exact ha) (fun a ha => by
      unfold endL at ha
      rw [List.getElem?_set, if_pos rfl] at ha
      split at ha
      · obtain rfl := Option.some.inj ha
        exact ⟨HE.out.1, HE.out.2.1, HE.out.2.2.1, rfl, rfl⟩
      · cases ha)
  have N7 : Hid (Below w.heap.size w (w6.setCell ⟨g, k * 5 + 4, none⟩ (.slice qn mx dn))) := N6.out.setCell HG.out _
  obtain ⟨m2, hm2⟩ : ∃ m2, m2 = (m.set k { y with un := d }).set k { y with un := d, np := qn, nc := dn, nx := nx } := ⟨_, rfl⟩
  rw [← hm2] at C7
  clear mk hm2
  go_wp2_with fail
  obtain ⟨w7, hw7⟩ : ∃ w7, w7 = w6.setCell ⟨g, k * 5 + 4, none⟩ (.slice qn mx dn) := ⟨_, rfl⟩
  rw [← hw7] at C7 N7 ⊢
  clear hw7 f4 q4 zb C6 N6
  have F7 : Hid (∀ z ∈ m2, FitO z) := fun z hz => by
    obtain ⟨j, hj⟩ := List.getElem?_of_mem hz
    have jl : j < (endL l k x d nx).length := by rw [← C7.out.len]; exact (List.getElem?_eq_some_iff.1 hj).1
    obtain ⟨a, ha⟩ : ∃ a, (endL l k x d nx)[j]? = some a := ⟨_, List.getElem?_eq_getElem jl⟩
    refine FitO.eq (C7.out.eqs j a z ha hj) ?_
    unfold endL at ha
    rw [List.getElem?_set] at ha
    have fx := FF.out x (List.mem_of_getElem? HK.out)
    split at ha
    · split at ha
      · obtain rfl := Option.some.inj ha
        exact ⟨fx.1, fx.2.1, HD.out, H2.out, by show nx.length ≤ _; have := H3.out; omega, fx.2.2.2.2.2⟩
      · cases ha
    · exact FF.out a (List.mem_of_getElem? ha)
  have L7 : Hid (m2.length = n) := by show _ = _; rw [C7.out.len]; unfold endL; rw [List.length_set, HL.out]
  obtain ⟨I2, E2, hIE2⟩ := ochk_ex m2
  have CK2 := Lib.hid (Check_any (some ⟨g, 0, none⟩) n cap m2 w7 (EV.out w7 N7.out) C7.out.offs L7.out F7.out I2 E2 hIE2)
  have CI2 := Lib.hid hIE2
  clear hIE2
  refine CK2.out.mono ?_
  rintro e w8 ⟨rfl, hb⟩
  have C8 := Lib.hid (C7.out.next hb)
  have N8 := Lib.hid (N7.out.trans (hb.mono N7.out.size))
  clear hb CK2
  by_cases hz : E2 = 0
  · subst hz
    have d9 : ((0 : Int) != 0) = false := rfl
    have G2 := Lib.hid CI2.out.good.1
    go_wp2_with fail
    go_ret2
    exact ⟨.inr ⟨g, cap, m2, k, x, rfl, GG.out, HX.out, HK.out, HC.out.1, HC.out.2, C8.out, F7.out, G2.out⟩, N8.out⟩
  · have d9 : (E2 != 0) = true := by simp [hz]
    have HZ := Lib.hid hz
    clear hz
    go_wp2_with fail
    go_ret2
    exact endA_no rfl HZ.out N8.out

end Go.Proofs.Ytchaihdbljkphaa
