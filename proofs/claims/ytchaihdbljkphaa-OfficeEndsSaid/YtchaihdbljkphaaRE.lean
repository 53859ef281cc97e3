/-
  The reference's End, for any list of offices. No statement of the seat is proved here.
-/
import Derived.Test.YtchaihdbljkphaaSm
namespace Go.Proofs.Ytchaihdbljkphaa
open Go Go.RowKit Go.Maps Go.Joins

/-- What stands behind the copy of the successors. -/
theorem end_step {w w4 w6 : World} {g k mx : Nat} {d : Int} {l m : List Off} {y : Off} {v1 : Value} {nx : List Int}
    (hN6 : Below w.heap.size w ((w4.setCell ⟨g, k * 5 + 3, none⟩ (.int .i64 d)).alloc (.cells #[] 3))) (hA : Below w4.heap.size (w4.setCell ⟨g, k * 5 + 3, none⟩ (.int .i64 d)) ((w4.setCell ⟨g, k * 5 + 3, none⟩ (.int .i64 d)).alloc (.cells #[] 3))) (hC : Cpy (w4.setCell ⟨g, k * 5 + 3, none⟩ (.int .i64 d)) g l m) (hk : m[k]? = some y)
    (hR : IRow w6 w4.heap.size v1 nx) (hg : ((w4.setCell ⟨g, k * 5 + 3, none⟩ (.int .i64 d)).alloc (.cells #[] 3)).grownBy w6 (Value.ownBlock (.slice (some ⟨w4.heap.size, 0, none⟩) 0 0))) (hG : g < w4.heap.size) (hz : w.heap.size ≤ w4.heap.size) (hm : nx.length = mx) :
    ∃ q9 c9, v1 = .slice q9 mx c9 ∧ IntsO w6 g q9 nx ∧ Cpy w6 g l m ∧ Below w.heap.size w w6 ∧ w6.frozen? ⟨g, k * 5 + 4, none⟩ = false ∧ w6.cell? ⟨g, k * 5 + 4, none⟩ = some (.slice y.np y.nx.length y.nc) ∧ g < w6.heap.size := by
  have B6 : Below w4.heap.size (w4.setCell ⟨g, k * 5 + 3, none⟩ (.int .i64 d)) w6 := hA.grown hg (by simp) (fun j e => by have e2 : w4.heap.size = j := Option.some.inj e; omega)
  have S5 : (w4.setCell ⟨g, k * 5 + 3, none⟩ (.int .i64 d)).heap.size = w4.heap.size := by simp
  have C6 : Cpy w6 g l m := hC.next (by rw [S5]; exact B6)
  obtain ⟨q9, c9, hv, hI, ha⟩ := hR.open3
  rw [hm] at hv
  have h4 := C6.own.2 k y hk 4 _ rfl
  exact ⟨q9, c9, hv, ⟨hI, .inr fun a h => by have := (ha a h).1; omega⟩, C6, hN6.grown hg (by have := hN6.size; exact this) (fun j e => by have e2 : w4.heap.size = j := Option.some.inj e; omega), h4.2, h4.1, C6.own.1⟩

set_option maxRecDepth 100000 in
set_option maxHeartbeats 8000000 in
theorem refEnd_any (p : Option Addr) (n c : Nat) (l : List Off) (id d : Int) (q : Option Addr) (cq : Nat) (nx : List Int) (w : World) (hL : OffsAt w p l) (hl : l.length = n) (hF : ∀ x ∈ l, FitO x) (hn : n ≤ 1000) (hd : I64 d)
    (hN : IntsAt w q nx) (hN2 : ∀ y ∈ nx, I64 y) (hN3 : nx.length * 8 ≤ 140737488355328) :
    Calls Try.prog 21 #[.slice p n c, .int .i64 id, .int .i64 d, .slice q nx.length cq] w fun e w' => EndX l id d nx n w e w' := by
  have HL := Lib.hid hl
  have LV := Lib.hid (fun (v : World) (h : Below w.heap.size w v) => hL.next h)
  have NV := Lib.hid (fun (v : World) (h : Below w.heap.size w v) => hN.next h)
  have FF := Lib.hid hF
  have HD := Lib.hid hd
  have H2 := Lib.hid hN2; have H3 := Lib.hid hN3
  obtain ⟨I, E, hIE⟩ := ochk_ex l
  have CK := Lib.hid (good_any p n c l w hL hl hn hF I E hIE)
  have CI := Lib.hid hIE
  have FD := Lib.hid (fun z v h => refFind_any p n c l z v (LV.out v h) hl hn)
  obtain ⟨mx, hmx⟩ : ∃ mx, nx.length = mx := ⟨_, rfl⟩
  rw [hmx]
  have HMX := Lib.hid hmx
  clear hL hl hF hIE hd hN hN2 hN3 hmx
  go_enter Try.func21, Try.ntmps21
  go_wp2_with fail
  refine CK.out.mono ?_
  rintro e w1 ⟨rfl, hb⟩
  have N1 := Lib.hid hb
  clear hb CK
  by_cases hz : E = 0
  case neg =>
    have d1 : (E == 0) = false := by simp [hz]
    have HZ := Lib.hid hz
    clear hz
    rw [d1]
    go_wp2_with fail
    go_ret2
    exact endX_no rfl (by decide) (.inl ⟨CI.out.bad HZ.out, rfl⟩) N1.out
  have d1 : (E == 0) = true := by simp [hz]
  subst hz
  have GG := Lib.hid CI.out.good.1
  go_wp2_with fail
  refine (FD.out id _ N1.out).mono ?_
  rintro e w2 ⟨rfl, rfl⟩
  have N2 := N1
  cases hf : fnd l id with
  | none =>
    have d2 : decide ((-1 : Int) < 0) = true := rfl
    rw [fixV_none hf]
    have HF0 := Lib.hid hf
    clear hf
    go_wp2_with fail
    go_ret2
    exact endX_no rfl (by decide) (.inr (.inl ⟨GG.out, HF0.out, rfl⟩)) N2.out
  | some x =>
  obtain ⟨k, hk, hlk, hkn⟩ := fixV_some hf
  rw [hk]
  have kn : k < n := by rw [← HL.out]; exact hkn
  have dk : decide ((k : Int) < 0) = false := decide_eq_false (by omega)
  obtain ⟨pb, po, hpp, ha, _⟩ := (LV.out w1 N2.out).get hlk
  subst hpp
  have p2 := ha.2.2.1; have p3 := ha.2.2.2.1
  have zb := ha.lt
  have k1 : (0 : Int) ≤ (k : Int) := by omega
  have k2 : (k : Int) < (n : Int) := by omega
  have HX := Lib.hid hf; have HK := Lib.hid hlk
  clear hf hk hlk hkn ha
  by_cases ca : d ≤ x.fr
  · have c1 : decide (d ≤ x.fr) = true := decide_eq_true ca
    have HC := Lib.hid ca
    clear ca
    go_wp2_with fail
    go_ret2
    exact endX_no rfl (by decide) (.inr (.inr (.inl ⟨x, GG.out, HX.out, fun h => by have := HC.out; have := h.1; omega, rfl⟩))) N2.out
  have c1 : decide (d ≤ x.fr) = false := decide_eq_false ca
  by_cases cb : d > x.un
  · have c2 : decide (d > x.un) = true := decide_eq_true cb
    have c3 : decide (x.un < d) = true := decide_eq_true cb
    have HC := Lib.hid cb
    clear ca cb
    go_wp2_with fail
    go_ret2
    exact endX_no rfl (by decide) (.inr (.inr (.inl ⟨x, GG.out, HX.out, fun h => by have := HC.out; have := h.2; omega, rfl⟩))) N2.out
  have c2 : decide (d > x.un) = false := decide_eq_false cb
  have c3 : decide (x.un < d) = false := decide_eq_false cb
  have HC : Hid (canE x.fr x.un d) := ⟨by omega, by omega⟩
  clear ca cb
  have LI := Lib.hid (Copy_any (some ⟨pb, po, none⟩) n c l w1 (LV.out w1 N2.out) HL.out (by omega) hn FF.out)
  go_wp2_with fail
  refine LI.out.mono ?_
  rintro e w4 ⟨g, cap, m, rfl, hC, hg, hb⟩
  have N4 := Lib.hid (N2.out.trans (hb.mono N2.out.size))
  have C4 := Lib.hid hC
  have HG : Hid (w.heap.size ≤ g) := Nat.le_trans N2.out.size hg
  clear hC hb hg LI p2 p3 zb
  obtain ⟨y, hy, he⟩ := C4.out.at_ HK.out
  have HY := Lib.hid hy; have HE := Lib.hid he
  have f3 := (C4.out.own.2 k y hy 3 _ rfl).2
  have q3 := (C4.out.own.2 k y hy 3 _ rfl).1
  have zb := C4.out.own.1
  have GL := Lib.hid zb
  clear hy he
  have C5 : Hid (Cpy (w4.setCell ⟨g, k * 5 + 3, none⟩ (.int .i64 d)) g (l.set k { x with un := d }) (m.set k { y with un := d })) :=
    C4.out.put HY.out (i := 3) (x' := { y with un := d }) (by omega) rfl (C4.out.nxs y (List.mem_of_getElem? HY.out)) (by simp) (fun j a hj ha => by
      rw [List.getElem?_set, if_neg (fun e => hj e.symm)] at ha
      exact ha) (fun a ha => by
      rw [List.getElem?_set, if_pos rfl] at ha
      split at ha
      · obtain rfl := Option.some.inj ha
        exact ⟨HE.out.1, HE.out.2.1, HE.out.2.2.1, rfl, HE.out.2.2.2.2⟩
      · cases ha)
  have N5 : Hid (Below w.heap.size w (w4.setCell ⟨g, k * 5 + 3, none⟩ (.int .i64 d))) := N4.out.setCell HG.out _
  have S5 : (w4.setCell ⟨g, k * 5 + 3, none⟩ (.int .i64 d)).heap.size = w4.heap.size := by simp
  have RW0 := row_empty (w4.setCell ⟨g, k * 5 + 3, none⟩ (.int .i64 d))
  rw [S5] at RW0
  have RW := Lib.hid RW0
  have A5 := Lib.hid ((Below.refl w4.heap.size (w4.setCell ⟨g, k * 5 + 3, none⟩ (.int .i64 d))).alloc (by simp) (.cells #[] 3))
  have N6 := Lib.hid (N5.out.alloc N5.out.size (.cells #[] 3))
  have I6 := Lib.hid (NV.out _ N6.out)
  have mk : (m.set k { y with un := d })[k]? = some { y with un := d } := by
    rw [List.getElem?_set, if_pos rfl, if_pos (List.getElem?_eq_some_iff.1 HY.out).1]
  have MK := Lib.hid mk
  have M8 : Hid (mx * 8 ≤ 140737488355328) := by show _ ≤ _; rw [← HMX.out]; exact H3.out
  clear S5 RW0 mk
  go_wp2_with (at_builtin; (refine wp_ints rfl _ _ rfl w4.heap.size _ rfl RW.out q nx mx cq rfl HMX.out I6.out M8.out (by simp) ?_; intro v1 w6 hR hg; have FS := Lib.hid (end_step N6.out A5.out C5.out MK.out hR hg GL.out N4.out.size HMX.out); obtain ⟨q9, c9, hv, IQ, C6, N7, f4, q4, zb⟩ := FS.out; subst hv))
  have C6' := Lib.hid C6
  have N7' := Lib.hid N7
  have IQ' := Lib.hid IQ
  clear f4 q4 zb f3 q3 C6 N7 IQ FS hR hg RW A5 N5 N6 I6 C5 N4 C4
  have C7 : Hid (Cpy (w6.setCell ⟨g, k * 5 + 4, none⟩ (.slice q9 mx c9)) g (endL l k x d nx) ((m.set k { y with un := d }).set k { y with un := d, np := q9, nc := c9, nx := nx })) :=
    C6'.out.put MK.out (i := 4) (x' := { y with un := d, np := q9, nc := c9, nx := nx }) (by omega) (by rw [← HMX.out]; rfl) IQ'.out (by unfold endL; simp) (fun j a hj ha => by
      unfold endL at ha
      rw [List.getElem?_set, if_neg (fun e => hj e.symm)] at ha
      rw [List.getElem?_set, if_neg (fun e => hj e.symm)]
      exact ha) (fun a ha => by
      unfold endL at ha
      rw [List.getElem?_set, if_pos rfl] at ha
      split at ha
      · obtain rfl := Option.some.inj ha
        exact ⟨HE.out.1, HE.out.2.1, HE.out.2.2.1, rfl, rfl⟩
      · cases ha)
  have N7 : Hid (Below w.heap.size w (w6.setCell ⟨g, k * 5 + 4, none⟩ (.slice q9 mx c9))) := N7'.out.setCell HG.out _
  obtain ⟨m2, hm2⟩ : ∃ m2, m2 = (m.set k { y with un := d }).set k { y with un := d, np := q9, nc := c9, nx := nx } := ⟨_, rfl⟩
  rw [← hm2] at C7
  clear hm2
  obtain ⟨w7, hw7⟩ : ∃ w7, w7 = w6.setCell ⟨g, k * 5 + 4, none⟩ (.slice q9 mx c9) := ⟨_, rfl⟩
  rw [← hw7] at C7 N7 ⊢
  clear hw7
  have F7 : Hid (∀ z ∈ m2, FitO z) := fun z hz => by
    obtain ⟨j, hj⟩ := List.getElem?_of_mem hz
    have jl : j < (endL l k x d nx).length := by rw [← C7.out.len]; exact (List.getElem?_eq_some_iff.1 hj).1
    obtain ⟨a, ha⟩ : ∃ a, (endL l k x d nx)[j]? = some a := ⟨_, List.getElem?_eq_getElem jl⟩
    refine FitO.eq (C7.out.eqs j a z ha hj) ?_
    unfold endL at ha
    rw [List.getElem?_set] at ha
    have fx := FF.out x (List.mem_of_getElem? HK.out)
    split at ha
    · split at ha
      · obtain rfl := Option.some.inj ha
        exact ⟨fx.1, fx.2.1, HD.out, H2.out, by show nx.length ≤ _; have := H3.out; omega, fx.2.2.2.2.2⟩
      · cases ha
    · exact FF.out a (List.mem_of_getElem? ha)
  have L7 : Hid (m2.length = n) := by show _ = _; rw [C7.out.len]; unfold endL; rw [List.length_set, HL.out]
  obtain ⟨I2, E2, hIE2⟩ := ochk_ex m2
  have CK2 := Lib.hid (refCheck_any (some ⟨g, 0, none⟩) n cap m2 w7 C7.out.offs L7.out hn F7.out I2 E2 hIE2)
  have CI2 := Lib.hid hIE2
  clear hIE2
  refine CK2.out.mono ?_
  rintro e w8 ⟨rfl, hb⟩
  have C8 := Lib.hid (C7.out.next hb)
  have N8 := Lib.hid (N7.out.trans (hb.mono N7.out.size))
  clear hb CK2
  by_cases hz : E2 = 0
  · subst hz
    have d9 : ((0 : Int) != 0) = false := rfl
    go_wp2_with fail
    go_ret2
    exact ⟨0, .inr (.inr (.inr ⟨x, k, I2, GG.out, HX.out, HK.out, HC.out, C8.out.chk.1 CI2.out⟩)), .inr ⟨rfl, g, cap, m2, k, x, rfl, GG.out, HX.out, HK.out, C8.out, F7.out⟩, N8.out⟩
  · have d9 : (E2 != 0) = true := by simp [hz]
    have HZ := Lib.hid hz
    clear hz
    go_wp2_with fail
    go_ret2
    exact endX_no rfl HZ.out (.inr (.inr (.inr ⟨x, k, I2, GG.out, HX.out, HK.out, HC.out, C8.out.chk.1 CI2.out⟩))) N8.out

end Go.Proofs.Ytchaihdbljkphaa
