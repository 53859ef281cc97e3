/-
  chain and heir, for any map of offices without a fault. No statement of the seat is proved here.
-/
import Derived.Test.YtchaihdbljkphaaVa
import Derived.Maps.AppendAt
import Derived.Lib.SmallJoins
import Derived.Deep.AppendLies
namespace Go.Proofs.Ytchaihdbljkphaa
open Go Go.RowKit Go.Maps Go.Joins

def iw (l : List Int) : List Value := l.map (Value.int .i64)
theorem iw_snoc (l : List Int) (n : Int) : iw l ++ [.int .i64 n] = iw (l ++ [n]) := by simp [iw]
def lenV : Value → Nat
  | .slice _ n _ => n
  | _ => 0
theorem info3 : (Try.prog.info? 3).map (fun i => (i.zero, i.size, i.bytes)) = some (some (.int .i64 0), 1, 8) := by kernel_rfl
theorem has_in (x : Off) (d : Int) : decide (inS x.fr x.un d) = inD x d := by
  unfold inD
  rw [Bool.eq_iff_iff, decide_eq_true_iff, Bool.and_eq_true, decide_eq_true_iff, decide_eq_true_iff]
/-- A block of five cells that the call itself may write. -/
def OwnO (w : World) (z : Nat) (x : Off) : Prop := OffAt w z 0 x ∧ ∀ i, i < 5 → w.frozen? ⟨z, i, none⟩ = false
theorem OwnO.next {w w' : World} {z : Nat} {x : Off} (h : OwnO w z x) (hb : Below w.heap.size w w') : OwnO w' z x :=
  ⟨h.1.next hb, fun i hi => (hb.frozen (p := ⟨z, i, none⟩) h.1.lt).trans (h.2 i hi)⟩
theorem OwnO.new (w : World) (x : Off) (t : TypeId) : OwnO (w.alloc (.cells #[.int .i64 x.id, .string x.nm, .int .i64 x.fr, .int .i64 x.un, .slice x.np x.nx.length x.nc] t)) w.heap.size x :=
  ⟨off_new w x t, fun _ _ => World.frozen?_alloc_new _ _ _ _⟩
theorem OwnO.grown {w w' : World} {z : Nat} {x : Off} {row : Option Nat} (h : OwnO w z x) (hg : w.grownBy w' row) (hne : some z ≠ row) : OwnO w' z x :=
  ⟨⟨hg.cell h.1.1 hne, hg.cell h.1.2.1 hne, hg.cell h.1.2.2.1 hne, hg.cell h.1.2.2.2.1 hne, hg.cell h.1.2.2.2.2 hne⟩, fun i hi => (hg.frozen_far ⟨z, i, none⟩ h.1.lt hne).trans (h.2 i hi)⟩
theorem ownsRow_succ {w : World} {base size n : Nat} {e : TypeId} {v : Value} {xs : List Value} (h : w.ownsRow base e size v (n + 1) xs) : ∃ g cap, v = .slice (some ⟨g, 0, none⟩) (n + 1) cap := by
  rcases ownsRow_forms h with ⟨_, h2⟩ | h2
  · cases h2
  · exact h2
theorem own_base {w : World} {base base' : Nat} {e : TypeId} {size : Nat} {v : Value} {k : Nat} {xs : List Value} (h : w.ownsRow base e size v k xs) (hb : base' ≤ base) : w.ownsRow base' e size v k xs := by
  obtain ⟨h1, h2⟩ := h
  refine ⟨h1, h2.imp id ?_⟩
  rintro ⟨g, c, cur, r1, r2, r⟩
  exact ⟨g, c, cur, r1, by omega, r⟩
theorem grown_set (W : World) (b i : Nat) (v : Value) : W.grownBy (W.setCell ⟨b, i, none⟩ v) (some b) :=
  ⟨rfl, rfl, rfl, by simp, fun k _ hk => Below.heap_setCell _ _ _ k (fun e => hk (by rw [e]))⟩
/-- The world behind the store of an office. -/
abbrev set5 (w : World) (z : Nat) (y : Off) : World :=
  ((((w.setCell ⟨z, 0, none⟩ (.int .i64 y.id)).setCell ⟨z, 1, none⟩ (.string y.nm)).setCell ⟨z, 2, none⟩ (.int .i64 y.fr)).setCell ⟨z, 3, none⟩ (.int .i64 y.un)).setCell ⟨z, 4, none⟩ (.slice y.np y.nx.length y.nc)
section
/-- What a block of n cells holds. -/
def HoldsN (n : Nat) (w : World) (b : Nat) (vs : Nat → Value) : Prop := b < w.heap.size ∧ ∀ i : Nat, i < n → w.cell? ⟨b, i, none⟩ = some (vs i) ∧ w.frozen? ⟨b, i, none⟩ = false
variable {n : Nat} {w w' : World} {b : Nat} {vs : Nat → Value}
theorem HoldsN.below {B : Nat} (h : HoldsN n w b vs) (hb : Below B w w') (hB : b < B) : HoldsN n w' b vs :=
  ⟨Nat.lt_of_lt_of_le h.1 hb.size, fun i hi => ⟨(hb.cell (p := ⟨b, i, none⟩) hB).trans (h.2 i hi).1, (hb.frozen (p := ⟨b, i, none⟩) hB).trans (h.2 i hi).2⟩⟩
theorem HoldsN.next (h : HoldsN n w b vs) (hb : Below w.heap.size w w') : HoldsN n w' b vs := h.below hb h.1
theorem HoldsN.alloc (h : HoldsN n w b vs) (o : Obj) : HoldsN n (w.alloc o) b vs := h.below ((Below.refl _ _).alloc (Nat.le_refl _) o) h.1
theorem HoldsN.put (h : HoldsN n w b vs) (o : Nat) (ho : o < n) (x : Value) : HoldsN n (w.setCell ⟨b, o, none⟩ x) b (fun j => if j = o then x else vs j) := by
  refine ⟨by simpa using h.1, fun i hi => ⟨?_, (World.frozen?_setCell _ _ _ _).trans (h.2 i hi).2⟩⟩
  by_cases e : i = o
  · subst e
    rw [World.cell?_setCell_same _ _ _ (h.2 i hi).1]
    simp
  · rw [World.cell?_setCell_other _ _ _ _ (fun k => e (congrArg Addr.off k).symm), (h.2 i hi).1]
    exact congrArg some (if_neg e).symm
theorem HoldsN.other {c : Nat} (h : HoldsN n w b vs) (hc : c ≠ b) (o : Nat) (x : Value) : HoldsN n (w.setCell ⟨c, o, none⟩ x) b vs := by
  refine ⟨by simpa using h.1, fun i hi => ⟨?_, (World.frozen?_setCell _ _ _ _).trans (h.2 i hi).2⟩⟩
  rw [World.cell?_setCell_other _ _ _ _ (fun k => hc (congrArg Addr.block k)), (h.2 i hi).1]
theorem HoldsN.new (w : World) (l : List Value) (t : TypeId) (n : Nat) (hn : n = l.length) : HoldsN n (w.alloc (.cells l.toArray t)) w.heap.size (fun i => l.getD i undef) := by
  subst hn
  refine ⟨by simp, fun i hi => ⟨?_, World.frozen?_alloc_new _ _ _ _⟩⟩
  rw [World.cell?_alloc_new]
  simp [hi]
theorem HoldsN.cell (h : HoldsN n w b vs) (i : Nat) (hi : i < n) : w.cell? ⟨b, i, none⟩ = some (vs i) := (h.2 i hi).1
theorem HoldsN.frozen (h : HoldsN n w b vs) (i : Nat) (hi : i < n) : w.frozen? ⟨b, i, none⟩ = false := (h.2 i hi).2
end


theorem OwnO.set {w : World} {z : Nat} {x : Off} (h : OwnO w z x) (y : Off) : OwnO (set5 w z y) z y := by
  have H : HoldsN 5 w z (fun i => #[Value.int .i64 x.id, .string x.nm, .int .i64 x.fr, .int .i64 x.un, .slice x.np x.nx.length x.nc].getD i undef) := by
    refine ⟨h.1.lt, fun i hi => ⟨?_, h.2 i hi⟩⟩
    match i, hi with
    | 0, _ => exact h.1.1
    | 1, _ => exact h.1.2.1
    | 2, _ => exact h.1.2.2.1
    | 3, _ => exact h.1.2.2.2.1
    | 4, _ => exact h.1.2.2.2.2
  have H5 := ((((H.put 0 (by omega) (.int .i64 y.id)).put 1 (by omega) (.string y.nm)).put 2 (by omega) (.int .i64 y.fr)).put 3 (by omega) (.int .i64 y.un)).put 4 (by omega) (.slice y.np y.nx.length y.nc)
  exact ⟨⟨H5.cell 0 (by omega), H5.cell 1 (by omega), H5.cell 2 (by omega), H5.cell 3 (by omega), H5.cell 4 (by omega)⟩, fun i hi => H5.frozen i hi⟩
theorem set5_grown (w : World) (z : Nat) (y : Off) : w.grownBy (set5 w z y) (some z) :=
  ((((grown_set _ _ _ _).trans (grown_set _ _ _ _)).trans (grown_set _ _ _ _)).trans (grown_set _ _ _ _)).trans (grown_set _ _ _ _)
/-- The row of numbers that begins behind a world. -/
def IRow (w : World) (B : Nat) (v : Value) (l : List Int) : Prop := w.ownsRow B 3 1 v l.length (iw l)

theorem IRow.next {w w' : World} {B : Nat} {v : Value} {l : List Int} (h : IRow w B v l) (hb : Below w.heap.size w w') : IRow w' B v l :=
  World.ownsRow.kept (row := none) h ⟨hb.os, hb.tape, hb.output, hb.size, fun k hk _ => hb.block k hk⟩ (by
    by_cases e : v.ownBlock = none
    · exact .inl e
    · exact .inr e)

set_option maxRecDepth 100000 in
set_option maxHeartbeats 8000000 in
theorem chain_any (v : Value) (m : List Off) (id d : Int) (w : World) (hM : OM w v m) (hi : I64 id) (c : List Int) (hc : ChL m d id c) (hc2 : c.length ≤ 32) :
    Calls Try.prog 33 #[v, .int .i64 id, .int .i64 d] w fun e w' => ∃ r, e = .returned r ∧ IRow w' w.heap.size r c ∧ Below w.heap.size w w' := by
  have MV := Lib.hid (fun (u : World) (h : Below w.heap.size w u) => hM.next h)
  have IDD := Lib.hid hi
  rcases hc with ⟨h0, rfl⟩ | hc
  · have lk := hM.vm.miss hi h0
    clear hM hi h0 hc2
    go_enter Try.func33, Try.ntmps33
    go_wp2_with fail
    refine wp_loop_rounds 1 ?_
    rw [rounds_succ]
    go_wp2_with fail
    go_ret
    exact ⟨_, rfl, World.ownsRow_nil _ _ _ _, (Below.refl _ _).alloc (Nat.le_refl _) _⟩
  obtain ⟨x0, hx0⟩ := hc.hasx
  have lk := hM.vm.look hi hx0
  have HC := Lib.hid hc
  obtain ⟨w1, hw1⟩ : ∃ w1, w1 = w.alloc (.cells #[.int .i64 x0.id, .string x0.nm, .int .i64 x0.fr, .int .i64 x0.un, .slice x0.np x0.nx.length x0.nc] 43) := ⟨_, rfl⟩
  have W1 : Hid (Below w.heap.size w w1) := by
    show Below _ _ _
    rw [hw1]
    exact (Below.refl _ _).alloc (Nat.le_refl _) _
  have O1 := OwnO.new w x0 43
  rw [← hw1] at O1
  have O1 := Lib.hid O1
  have HX0 := Lib.hid hx0
  have C2 := Lib.hid hc2
  clear hM hi hx0 hc hc2
  go_enter Try.func33, Try.ntmps33
  go_wp2_with fail
  rw [← hw1]
  clear lk hw1
  obtain ⟨z0, hz0⟩ : ∃ z0, z0 = w.heap.size := ⟨_, rfl⟩
  have HZ0 := Lib.hid hz0
  rw [← hz0] at O1 ⊢
  clear hz0
  go_loopw [7, 9] (fun ids ok wr => ∃ (k : Nat) (z : Int) (x : Off), c[k]? = some z ∧ fnd m z = some x ∧ ok = .bool true ∧ IRow wr w1.heap.size ids (c.take k) ∧ Below w.heap.size w wr ∧ w1.heap.size ≤ wr.heap.size ∧ OwnO wr z0 x) (fun ids _ _ => c.length - lenV ids)
  case atStart =>
    obtain ⟨t, ht⟩ := HC.out.ne
    exact ⟨0, id, x0, by rw [ht]; rfl, HX0.out, rfl, by rw [List.take_zero]; exact World.ownsRow_nil _ _ _ _, W1.out, Nat.le_refl _, O1.out⟩
  case round =>
    obtain ⟨k, z, x, hz, hx, rfl, hrow, hB, hsz, hO⟩ := hrel
    obtain ⟨x', hx', hcase⟩ := HC.out.at k z hz
    obtain rfl := Option.some.inj (hx.symm.trans hx')
    have hk : k < c.length := (List.getElem?_eq_some_iff.1 hz).1
    have hxm := (fnd_some hx).1
    have hzx := (fnd_some hx).2
    have TK : Hid (c.take (k + 1) = c.take k ++ [x.id]) := by
      show _ = _
      rw [take_next hz, hzx]
    have LK : (c.take k).length = k := by rw [List.length_take]; omega
    have RW : Hid (wr.ownsRow w1.heap.size 3 1 u7 k (iw (c.take k))) := by
      show World.ownsRow _ _ _ _ _ _ _
      have := hrow
      unfold IRow at this
      rw [LK] at this
      exact this
    have LEN : Hid (lenV u7 = k) := by
      show _ = _
      rcases ownsRow_forms RW.out with ⟨h, h2⟩ | ⟨g, cap, h⟩
      · rw [h, h2]; rfl
      · rw [h]; rfl
    have NB := Lib.hid hB
    have NS := Lib.hid hsz
    have OO := Lib.hid hO
    have FX := Lib.hid ((MV.out w (Below.refl _ _)).ft x hxm)
    have NN := Lib.hid (fun u h => (MV.out u h).nx x hxm)
    have HK := Lib.hid hk
    have CS := Lib.hid hcase
    have zb := hO.1.lt
    have q0 := hO.1.1; have q1 := hO.1.2.1; have q2 := hO.1.2.2.1; have q3 := hO.1.2.2.2.1; have q4 := hO.1.2.2.2.2
    obtain ⟨i0, hi, hz0, hz1, hz2⟩ := info_parts info3
    have kk : k ≤ 32 := by have := C2.out; omega
    have ZW : Hid (z0 < w1.heap.size) := O1.out.1.lt
    clear hrow hB hsz hO hx hx' hcase hz hxm hzx hk LK O1 HX0
    have hne : some z0 ≠ u7.ownBlock := fun e => by
      have := (RW.out.lt z0 e.symm).1
      have := ZW.out
      omega
    go_wp2_with (at_builtin; refine wpList_append_own _ rfl _ _ 28 rfl w1.heap.size 3 i0 (.int .i64 0) 1 8 Try.underlying28 hi hz0 hz1 hz2 rfl (by decide) _ _ _ rfl (RW.out.alloc _) ⟨wr.heap.size, 0, none⟩ 1 1 [.int .i64 x.id] rfl rfl (cell_one_new _ _ _) (by simp [Value.oneCell']) (by unfold maxLen; omega) (by omega) (by have := NS.out; simp; omega) ?_; intro v' w2 hown2 hgrow2 _; have O2 := Lib.hid ((OO.out.next ((Below.refl _ _).alloc (Nat.le_refl _) (.cells #[.int .i64 x.id] 3))).grown hgrow2 hne); have p0 := O2.out.1.1; have p1 := O2.out.1.2.1; have p2 := O2.out.1.2.2.1; have p3 := O2.out.1.2.2.2.1; have p4 := O2.out.1.2.2.2.2; have zb2 := O2.out.1.lt)
    have NB2 : Hid (Below w.heap.size w w2) := (NB.out.alloc NB.out.size (.cells #[.int .i64 x.id] 3)).grown hgrow2 (by have := NB.out.size; simp; omega) (fun j e => by
      have := (RW.out.lt j e).1
      have := W1.out.size
      omega)
    have NS2 : Hid (w1.heap.size ≤ w2.heap.size) := by
      have := hgrow2.size
      have := NS.out
      simp at *
      show _ ≤ _
      omega
    obtain ⟨g', cap', hv'⟩ := ownsRow_succ hown2
    have R2 : Hid (IRow w2 w1.heap.size v' (c.take (k + 1))) := by
      show World.ownsRow _ _ _ _ _ _ _
      rw [TK.out, List.length_append, List.length_singleton, List.length_take, Nat.min_eq_left (by have := HK.out; omega), ← iw_snoc]
      exact hown2
    have LEN2 : Hid (lenV v' = k + 1) := by show _ = _; rw [hv']; rfl
    clear hown2 hgrow2 hne hv' q0 q1 q2 q3 q4 zb
    refine (Has_any _ _ _ _).mono ?_
    rintro e w3 ⟨rfl, hb⟩
    rw [has_in]
    have O3 := Lib.hid (O2.out.next hb)
    have NB3 := Lib.hid (NB2.out.trans (hb.mono NB2.out.size))
    have NS3 : Hid (w1.heap.size ≤ w3.heap.size) := Nat.le_trans NS2.out hb.size
    have R3 := Lib.hid (R2.out.next hb)
    clear hb p0 p1 p2 p3 p4 zb2
    have q4 := O3.out.1.2.2.2.2
    have q3 := O3.out.1.2.2.2.1; have q2 := O3.out.1.2.2.1; have q1 := O3.out.1.2.1; have q0 := O3.out.1.1
    have zb := O3.out.1.lt
    obtain ⟨n, hn⟩ : ∃ n, x.nx.length = n := ⟨_, rfl⟩
    rw [hn] at q4
    have HN := Lib.hid hn
    clear hn
    obtain ⟨B, hB⟩ : ∃ B, inD x d = B := ⟨_, rfl⟩
    rw [hB]
    have HB := Lib.hid hB
    clear hB
    rcases CS.out with ⟨ce, cb⟩ | ⟨ce, cb, mm, t, cn, cm⟩
    · have FIN : Hid (c.take (k + 1) = c) := by show _ = _; rw [ce, List.take_length]
      have R4 : Hid (IRow w3 w.heap.size v' c) := by
        show IRow _ _ _ _
        have := R3.out
        rw [FIN.out] at this
        exact own_base this W1.out.size
      cases B with
      | true =>
        clear cb ce
        go_wp2_with fail
        go_ret
        exact ⟨_, rfl, R4.out, NB3.out⟩
      | false =>
        have hn0 : n = 0 := by
          rcases cb with h | h
          · rw [HB.out] at h; cases h
          · rw [← HN.out, h]; rfl
        subst hn0
        have d0 : (((0 : Nat) : Int) == 0) = true := rfl
        clear cb ce
        go_wp2_with fail
        go_ret
        exact ⟨_, rfl, R4.out, NB3.out⟩
    · have hBf : B = false := by rw [← HB.out]; exact cb
      subst hBf
      have npos : 0 < n := by rw [← HN.out, cn]; simp
      have d0 : ((n : Int) == 0) = false := by simp; omega
      have d1 : decide ((0 : Int) < (n : Int)) = true := by simp; omega
      obtain ⟨blk, off, hnp, ha⟩ := (NN.out w3 NB3.out).get (i := 0) (x := mm) (by rw [cn]; rfl)
      rw [Nat.add_zero] at ha
      have zb3 := World.block_lt_of_cell? w3 _ ha
      obtain ⟨y, hy, _⟩ := HC.out.at (k + 1) mm cm
      have HY := Lib.hid hy
      have im : I64 mm := FX.out.2.2.2.1 mm (by rw [cn]; exact List.mem_cons_self)
      have lk := (MV.out w3 NB3.out).vm.look im hy
      have CM := Lib.hid cm
      rw [hnp] at q4
      clear cn cm ce cb hy hnp im
      have O5 := Lib.hid (O3.out.set y)
      have G5 := set5_grown w3 z0 y
      have NB5 : Hid (Below w.heap.size w (set5 w3 z0 y)) := NB3.out.grown G5 NB3.out.size (by intro q e; cases e; rw [HZ0.out]; exact Nat.le_refl _)
      have NS5 : Hid (w1.heap.size ≤ (set5 w3 z0 y).heap.size) := Nat.le_trans NS3.out G5.size
      have R5 : Hid (IRow (set5 w3 z0 y) w1.heap.size v' (c.take (k + 1))) := World.ownsRow.kept R3.out G5 (.inr fun e => by
        have := (World.ownsRow.lt R3.out z0 e).1
        have := ZW.out
        omega)
      have z0' := O3.out.2 0 (by omega); have z1' := O3.out.2 1 (by omega); have z2' := O3.out.2 2 (by omega); have z3' := O3.out.2 3 (by omega); have z4' := O3.out.2 4 (by omega)
      clear G5
      go_wp2_with fail
      exact ⟨⟨k + 1, mm, y, CM.out, HY.out, rfl, R5.out, NB5.out, NS5.out, O5.out⟩, by rw [LEN.out, LEN2.out]; have := HK.out; omega⟩

end Go.Proofs.Ytchaihdbljkphaa
