/-
  follow, between, Follow. No statement of the seat is proved here.
-/
import Derived.Test.YtbjbioiggjhknaaDoorFl
namespace Go.Proofs.YtbjbioiggjhknaaDoor
open Go Go.RowKit

/-- What a class of the first one of some versions is in the last one. -/
def walkF : List Pln → ByteArray → ByteArray
  | x :: y :: r, s => walkF (y :: r) ((nxt x y s).getD emp)
  | _, s => s
theorem walkF_drop {l : List Pln} {k : Nat} {x y : Pln} {s : ByteArray} (hx : l[k]? = some x) (hy : l[k + 1]? = some y) : walkF (l.drop k) s = walkF (l.drop (k + 1)) ((nxt x y s).getD emp) := by
  have h1 : k + 1 < l.length := (List.getElem?_eq_some_iff.1 hy).1
  obtain ⟨_, e1⟩ := List.getElem?_eq_some_iff.1 hx
  obtain ⟨_, e2⟩ := List.getElem?_eq_some_iff.1 hy
  rw [List.drop_eq_getElem_cons (show k < l.length by omega), List.drop_eq_getElem_cons h1, e1, e2]
  rfl
theorem walkF_last {l : List Pln} {k : Nat} {s : ByteArray} (h : l.length ≤ k + 1) : walkF (l.drop k) s = s := by
  rcases (show l.length ≤ k ∨ l.length = k + 1 by omega) with g | g
  · rw [List.drop_of_length_le g]
    rfl
  · rw [List.drop_eq_getElem_cons (show k < l.length by omega), List.drop_of_length_le (by omega)]
    rfl
theorem nxt_size {o p : Pln} {s : ByteArray} (hp : Szs p.ms) (hs : s.size ≤ 140737488355328) : ((nxt o p s).getD emp).size ≤ 140737488355328 := by
  unfold nxt
  by_cases h : has o.cs s = true
  · rw [if_pos h]
    rcases find_at s p.ms with ⟨g, _⟩ | ⟨m, x, g1, _, _, g⟩
    · rw [g]
      show ((near p.cs s).getD emp).size ≤ _
      have key : ∀ n (t : ByteArray), t.size ≤ 140737488355328 → ((nearF p.cs n t).getD emp).size ≤ 140737488355328 := by
        intro n
        induction n with
        | zero => intro t _; show (0 : Nat) ≤ _; omega
        | succ n ih =>
          intro t ht
          by_cases k : has p.cs t = true
          · rw [nearF_stop k]; exact ht
          · cases hq : par t with
            | none => rw [nearF_none k hq]; show (0 : Nat) ≤ _; omega
            | some q => rw [nearF_some k hq]; exact ih q (by have := par_size hq; omega)
      exact key 8 s hs
    · rw [g]
      exact (hp x (List.mem_of_getElem? g1)).2
  · rw [if_neg h]
    show (0 : Nat) ≤ _
    omega

set_option maxRecDepth 100000 in
set_option maxHeartbeats 8000000 in
theorem follow_any (p : Option Addr) (n cap : Nat) (l : List Pln) (s : ByteArray) (w : World) (hE : Env w) (hL : PlnsAt w p l) (hl : l.length = n) (h0 : 0 < n) (hn : n ≤ 100) (hF : ∀ y ∈ l, Fit y) (hs : s.size ≤ 140737488355328) :
    Calls Tryd.prog 18 #[.slice p n cap, .string s] w fun e w' => e = .returned (.string (walkF l s)) ∧ Below w.heap.size w w' := by
  have L0 := Lib.hid hL; have E0 := Lib.hid hE; have HL := Lib.hid hl; have HF := Lib.hid hF
  obtain ⟨R, hR⟩ : ∃ R, R = walkF l s := ⟨_, rfl⟩
  have HR : Hid (walkF (l.drop 0) s = R) := hR.symm
  rw [← hR]
  have hw1 : IntKind.i64.wrap ((n : Int) - 1) = (n : Int) - 1 := IntWalk.i64_in _ (by omega)
  clear hL hE hl hF hR
  go_enter Tryd.func18, Tryd.ntmps18
  go_wp2_with fail
  go_loopw [1, 9] (fun c i wr => ∃ (t : ByteArray) (k : Nat), k < n ∧ c = .string t ∧ i = .int .i64 k ∧ walkF (l.drop k) t = R ∧ t.size ≤ 140737488355328 ∧ Below w.heap.size w wr) (fun _ i _ => n - (intOf i).toNat)
  case atStart => exact ⟨s, 0, h0, rfl, rfl, HR.out, hs, by go_grown⟩
  case round =>
    obtain ⟨t, k, hk, rfl, rfl, hr, hz, hb⟩ := hrel
    have NB := Lib.hid hb
    have HR1 := Lib.hid hr
    by_cases hkn : k + 1 < n
    · obtain ⟨x, hx⟩ : ∃ x, l[k]? = some x := ⟨_, List.getElem?_eq_getElem (by rw [HL.out]; omega)⟩
      obtain ⟨y, hy⟩ : ∃ y, l[k + 1]? = some y := ⟨_, List.getElem?_eq_getElem (by rw [HL.out]; omega)⟩
      obtain ⟨blk, off, rfl, hpx, hkx⟩ := L0.out.get hx
      obtain ⟨blk2, off2, he, hpy, hky⟩ := L0.out.get hy
      obtain ⟨rfl, rfl⟩ : blk = blk2 ∧ off = off2 := by simpa using he
      have PX := Lib.hid (hpx.next hb); have PY := Lib.hid (hpy.next hb)
      have FX := HF.out x (List.mem_of_getElem? hx); have FY := HF.out y (List.mem_of_getElem? hy)
      have C1 := Lib.hid (fun w1 (h1 : Below w.heap.size w w1) => Next_any x y t w1 (E0.out.below h1) (hkx.next h1) (hky.next h1) FX.n1 FY.n1 FY.n2 hz)
      have HR2 : Hid (walkF (l.drop (k + 1)) ((nxt x y t).getD emp) = R) := by rw [← walkF_drop hx hy]; exact HR1.out
      have hz2 := nxt_size (o := x) (s := t) FY.z2 hz
      have hkd : decide ((k : Int) < (n : Int) - 1) = true := by simp; omega
      have hkz : (k : Int) < (n : Int) := by omega
      have hk0 : k < n := by omega
      have hj1 : (0 : Int) ≤ (k : Int) + 1 := by omega
      have hj2 : (k : Int) + 1 < (n : Int) := by omega
      have hj3 : ((k : Int) + 1).toNat = k + 1 := by omega
      have hj4 : IntKind.i64.wrap ((k : Int) + 1) = (k : Int) + 1 := IntWalk.i64_in _ (by omega)
      have x0 := PX.out.1; have x1 := PX.out.2.1; have x2 := PX.out.2.2.1; have x3 := PX.out.2.2.2.1; have x4 := PX.out.2.2.2.2
      have y0 := PY.out.1; have y1 := PY.out.2.1; have y2 := PY.out.2.2.1; have y3 := PY.out.2.2.2.1; have y4 := PY.out.2.2.2.2
      have zb := PX.out.lt
      have HS : Hid ((wr.cell? ⟨blk, off + k * 5, none⟩ = some (.int .i64 x.v) ∧ wr.cell? ⟨blk, off + k * 5 + 1, none⟩ = some (.int .i64 x.f) ∧ wr.cell? ⟨blk, off + k * 5 + 2, none⟩ = some (.int .i64 x.u) ∧ wr.cell? ⟨blk, off + k * 5 + 3, none⟩ = some (.slice x.cp x.cs.length x.cc) ∧ wr.cell? ⟨blk, off + k * 5 + 4, none⟩ = some (.slice x.mp x.ms.length x.mc)) ∧ (wr.cell? ⟨blk, off + (k + 1) * 5, none⟩ = some (.int .i64 y.v) ∧ wr.cell? ⟨blk, off + (k + 1) * 5 + 1, none⟩ = some (.int .i64 y.f) ∧ wr.cell? ⟨blk, off + (k + 1) * 5 + 2, none⟩ = some (.int .i64 y.u) ∧ wr.cell? ⟨blk, off + (k + 1) * 5 + 3, none⟩ = some (.slice y.cp y.cs.length y.cc) ∧ wr.cell? ⟨blk, off + (k + 1) * 5 + 4, none⟩ = some (.slice y.mp y.ms.length y.mc))) := ⟨PX.out, PY.out⟩
      unfold Pln.val at C1
      obtain ⟨N, hN⟩ : ∃ N, N = nxt x y t := ⟨_, rfl⟩
      rw [← hN] at C1 HR2 hz2
      obtain ⟨q, bq, hq1, hq2⟩ : ∃ q bq, optV N = .tuple #[.string q, .bool bq] ∧ N.getD emp = q := by
        cases N with
        | none => exact ⟨_, _, rfl, rfl⟩
        | some r => exact ⟨_, _, rfl, rfl⟩
      rw [hq1] at C1
      rw [hq2] at HR2 hz2
      clear hb hpx hkx hx hpy hky hy he hr FX FY hN hq1 hq2
      go_wp2_with fail
      go_region_held3 (fun v => (v.cell? ⟨blk, off + k * 5, none⟩ = some (.int .i64 x.v) ∧ v.cell? ⟨blk, off + k * 5 + 1, none⟩ = some (.int .i64 x.f) ∧ v.cell? ⟨blk, off + k * 5 + 2, none⟩ = some (.int .i64 x.u) ∧ v.cell? ⟨blk, off + k * 5 + 3, none⟩ = some (.slice x.cp x.cs.length x.cc) ∧ v.cell? ⟨blk, off + k * 5 + 4, none⟩ = some (.slice x.mp x.ms.length x.mc)) ∧ (v.cell? ⟨blk, off + (k + 1) * 5, none⟩ = some (.int .i64 y.v) ∧ v.cell? ⟨blk, off + (k + 1) * 5 + 1, none⟩ = some (.int .i64 y.f) ∧ v.cell? ⟨blk, off + (k + 1) * 5 + 2, none⟩ = some (.int .i64 y.u) ∧ v.cell? ⟨blk, off + (k + 1) * 5 + 3, none⟩ = some (.slice y.cp y.cs.length y.cc) ∧ v.cell? ⟨blk, off + (k + 1) * 5 + 4, none⟩ = some (.slice y.mp y.ms.length y.mc))) (first | exact HS.out | assumption)
        ((first
          | (go_at_call 28; refine (C1.out _ (below_drewN NB.out 1)).mono ?_; rintro e w2 ⟨rfl, hb2⟩; have B2 : Hid (Below w.heap.size w w2) := (below_drewN NB.out 1).trans (hb2.mono NB.out.size); have hs2 : (w2.cell? ⟨blk, off + k * 5, none⟩ = some (.int .i64 x.v) ∧ w2.cell? ⟨blk, off + k * 5 + 1, none⟩ = some (.int .i64 x.f) ∧ w2.cell? ⟨blk, off + k * 5 + 2, none⟩ = some (.int .i64 x.u) ∧ w2.cell? ⟨blk, off + k * 5 + 3, none⟩ = some (.slice x.cp x.cs.length x.cc) ∧ w2.cell? ⟨blk, off + k * 5 + 4, none⟩ = some (.slice x.mp x.ms.length x.mc)) ∧ (w2.cell? ⟨blk, off + (k + 1) * 5, none⟩ = some (.int .i64 y.v) ∧ w2.cell? ⟨blk, off + (k + 1) * 5 + 1, none⟩ = some (.int .i64 y.f) ∧ w2.cell? ⟨blk, off + (k + 1) * 5 + 2, none⟩ = some (.int .i64 y.u) ∧ w2.cell? ⟨blk, off + (k + 1) * 5 + 3, none⟩ = some (.slice y.cp y.cs.length y.cc) ∧ w2.cell? ⟨blk, off + (k + 1) * 5 + 4, none⟩ = some (.slice y.mp y.ms.length y.mc)) := ⟨PlnAt.next (show PlnAt wr.drew blk (off + k * 5) x from PX.out) hb2, PlnAt.next (show PlnAt wr.drew blk (off + (k + 1) * 5) y from PY.out) hb2⟩)))
      clear hb2 hs2
      go_wp2_with fail
      go_roundw
      case rel => exact ⟨_, k + 1, hkn, rfl, by go_num, HR2.out, hz2, B2.out⟩
      case measure => simp [intOf]; omega
    · have hkd : decide ((k : Int) < (n : Int) - 1) = false := by simp; omega
      have hR : Hid (t = R) := by
        show t = R
        have := HR1.out
        rwa [walkF_last (by rw [HL.out]; omega)] at this
      clear hb hr
      go_wp2_with fail
      go_ret
      rw [hR.out]
      exact ⟨rfl, NB.out⟩

/-- Versions from number a to number b. -/
def subl (l : List Pln) (a b : Nat) : List Pln := (l.drop (a - 1)).take (b - (a - 1))
theorem subl_len {l : List Pln} {a b : Nat} (h1 : 1 ≤ a) (h2 : a ≤ b) (h3 : b ≤ l.length) : (subl l a b).length = b - (a - 1) := by
  unfold subl
  rw [List.length_take, List.length_drop]
  omega
theorem subl_get {l : List Pln} {a b j : Nat} {x : Pln} (h : (subl l a b)[j]? = some x) : j < b - (a - 1) ∧ l[a - 1 + j]? = some x := by
  unfold subl at h
  rw [List.getElem?_take] at h
  split at h
  · rename_i hj
    rw [List.getElem?_drop] at h
    exact ⟨hj, h⟩
  · cases h
theorem subl_at {w : World} {blk off : Nat} {l : List Pln} {a b : Nat} (h : ∀ i x, l[i]? = some x → PlnAt w blk (off + i * 5) x ∧ PlnOk w x) : PlnsAt w (some ⟨blk, off + (a - 1) * 5, none⟩) (subl l a b) :=
  .inr ⟨blk, off + (a - 1) * 5, rfl, fun j x hj => by
    have := h _ _ (subl_get hj).2
    rwa [show off + (a - 1) * 5 + j * 5 = off + (a - 1 + j) * 5 by omega]⟩

/-- What between answers. -/
def Btw (l : List Pln) (E : Int) (a b : Int) (p2 : Option Addr) (k c : Nat) (e : Int) (w : World) : Prop :=
  (E ≠ 0 ∧ p2 = none ∧ k = 0 ∧ c = 0 ∧ e = 1) ∨ (E = 0 ∧ (a < 1 ∨ b < a ∨ (l.length : Int) < b) ∧ p2 = none ∧ k = 0 ∧ c = 0 ∧ e = 7) ∨
    (E = 0 ∧ ∃ a' b' : Nat, a = a' ∧ b = b' ∧ 1 ≤ a' ∧ a' ≤ b' ∧ b' ≤ l.length ∧ k = b' - (a' - 1) ∧ e = 0 ∧ PlnsAt w p2 (subl l a' b') ∧ k ≤ c)

set_option maxRecDepth 100000 in
set_option maxHeartbeats 8000000 in
theorem between_any (p : Option Addr) (n cap : Nat) (l : List Pln) (a b : Int) (w : World) (hE : Env w) (hL : PlnsAt w p l) (hl : l.length = n) (hc : n ≤ cap)  (hnm : (n : Int) ≤ 4398046511104) (hF : ∀ y ∈ l, Fit y) (I E : Int) (h : ChkIs l I E) :
    Calls Tryd.prog 14 #[.slice p n cap, .int .i64 a, .int .i64 b] w fun e w' => ∃ p2 k c r, e = .returned (.tuple #[.slice p2 k c, .int .i64 r]) ∧ Btw l E a b p2 k c r w' ∧ Below w.heap.size w w' := by
  have C1 := Lib.hid (Check_any p n cap l w hE hL hl hc hF I E h)
  have L0 := Lib.hid hL; have HL := Lib.hid hl
  clear hE hL hl hF h
  by_cases hz : E = 0
  · have d1 : (E != 0) = false := by simp [hz]
    have HZ := Lib.hid hz
    clear hz
    by_cases h1 : a < 1
    · have e1 : decide (a < 1) = true := decide_eq_true h1
      have H1 := Lib.hid h1
      clear h1
      go_enter Tryd.func14, Tryd.ntmps14
      go_wp2_with fail
      refine C1.out.mono ?_
      rintro e w2 ⟨rfl, hb⟩
      go_wp2_with fail
      go_ret2
      exact ⟨_, _, _, _, rfl, .inr (.inl ⟨HZ.out, .inl H1.out, rfl, rfl, rfl, rfl⟩), hb⟩
    · have e1 : decide (a < 1) = false := decide_eq_false h1
      by_cases h2 : b < a
      · have e2 : decide (a > b) = true := by simp; omega
        have H2 := Lib.hid h2
        clear h1 h2
        go_enter Tryd.func14, Tryd.ntmps14
        go_wp2_with fail
        refine C1.out.mono ?_
        rintro e w2 ⟨rfl, hb⟩
        go_wp2_with fail
        go_ret2
        exact ⟨_, _, _, _, rfl, .inr (.inl ⟨HZ.out, .inr (.inl H2.out), rfl, rfl, rfl, rfl⟩), hb⟩
      · have e2 : decide (a > b) = false := by simp; omega
        by_cases h3 : (n : Int) < b
        · have e3 : decide (b > (n : Int)) = true := by simp; omega
          have H3 := Lib.hid h3
          clear h1 h2 h3
          go_enter Tryd.func14, Tryd.ntmps14
          go_wp2_with fail
          refine C1.out.mono ?_
          rintro e w2 ⟨rfl, hb⟩
          go_wp2_with fail
          go_ret2
          exact ⟨_, _, _, _, rfl, .inr (.inl ⟨HZ.out, .inr (.inr (by rw [HL.out]; exact H3.out)), rfl, rfl, rfl, rfl⟩), hb⟩
        · have e3 : decide (b > (n : Int)) = false := by simp; omega
          obtain ⟨a', rfl⟩ : ∃ a' : Nat, a = a' := ⟨a.toNat, by omega⟩
          obtain ⟨b', rfl⟩ : ∃ b' : Nat, b = b' := ⟨b.toNat, by omega⟩
          have g1 : 1 ≤ a' := by omega
          have g2 : a' ≤ b' := by omega
          have g3 : b' ≤ n := by omega
          have hw1 : IntKind.i64.wrap ((a' : Int) - 1) = (a' : Int) - 1 := IntWalk.i64_in _ (by omega)
          have hj1 : (0 : Int) ≤ (a' : Int) - 1 := by omega
          have hj2 : (a' : Int) - 1 ≤ (b' : Int) := by omega
          have hj3 : ((a' : Int) - 1).toNat = a' - 1 := by omega
          have hj4 : (b' : Int) ≤ (cap : Int) := by omega
          have hj5 : (1 : Int) ≤ (a' : Int) := by omega
          have hj6 : b' ≤ cap := by omega
          have hj7 : a' ≤ b' + 1 := by omega
          have hj8 : (a' : Int) ≤ (b' : Int) + 1 := by omega
          obtain ⟨x, hx⟩ : ∃ x, l[a' - 1]? = some x := ⟨_, List.getElem?_eq_getElem (by rw [HL.out]; omega)⟩
          obtain ⟨blk, off, rfl, hpx⟩ : ∃ blk off, p = some ⟨blk, off, none⟩ ∧ ∀ i x, l[i]? = some x → PlnAt w blk (off + i * 5) x ∧ PlnOk w x := by
            rcases L0.out with h | h
            · rw [h] at hx; simp at hx
            · exact h
          have PX := Lib.hid hpx
          clear hpx hx h1 h2 h3
          go_enter Tryd.func14, Tryd.ntmps14
          go_wp2_with fail
          refine C1.out.mono ?_
          rintro e w2 ⟨rfl, hb⟩
          have B2 := Lib.hid hb
          clear hb
          go_wp2_with fail
          go_ret2
          exact ⟨_, _, _, _, rfl, .inr (.inr ⟨HZ.out, a', b', rfl, rfl, g1, g2, by rw [HL.out]; exact g3, rfl, rfl, (subl_at PX.out).next B2.out, by omega⟩), B2.out⟩
  · have d1 : (E != 0) = true := by simp [hz]
    have HZ := Lib.hid hz
    clear hz
    go_enter Tryd.func14, Tryd.ntmps14
    go_wp2_with fail
    refine C1.out.mono ?_
    rintro e w2 ⟨rfl, hb⟩
    go_wp2_with fail
    go_ret2
    exact ⟨_, _, _, _, rfl, .inl ⟨HZ.out, rfl, rfl, rfl, rfl⟩, hb⟩

/-- What Follow answers. -/
def FolIs (l : List Pln) (E : Int) (a b : Int) (s R : ByteArray) (e : Int) : Prop :=
  (E ≠ 0 ∧ R = emp ∧ e = 1) ∨ (E = 0 ∧ (a < 1 ∨ b < a ∨ (l.length : Int) < b) ∧ R = emp ∧ e = 7) ∨
    (E = 0 ∧ ∃ (a' b' : Nat) (x : Pln), a = a' ∧ b = b' ∧ 1 ≤ a' ∧ a' ≤ b' ∧ b' ≤ l.length ∧ l[a' - 1]? = some x ∧ ((has x.cs s = false ∧ R = emp ∧ e = 7) ∨ (has x.cs s = true ∧ R = walkF (subl l a' b') s ∧ e = 0)))
theorem fol_ex (l : List Pln) (E a b : Int) (s : ByteArray) : ∃ R e, FolIs l E a b s R e := by
  by_cases hz : E = 0
  · by_cases h : a < 1 ∨ b < a ∨ (l.length : Int) < b
    · exact ⟨_, _, .inr (.inl ⟨hz, h, rfl, rfl⟩)⟩
    · obtain ⟨a', rfl⟩ : ∃ a' : Nat, a = a' := ⟨a.toNat, by omega⟩
      obtain ⟨b', rfl⟩ : ∃ b' : Nat, b = b' := ⟨b.toNat, by omega⟩
      obtain ⟨x, hx⟩ : ∃ x, l[a' - 1]? = some x := ⟨_, List.getElem?_eq_getElem (by omega)⟩
      cases hh : has x.cs s with
      | false => exact ⟨_, _, .inr (.inr ⟨hz, a', b', x, rfl, rfl, by omega, by omega, by omega, hx, .inl ⟨hh, rfl, rfl⟩⟩)⟩
      | true => exact ⟨_, _, .inr (.inr ⟨hz, a', b', x, rfl, rfl, by omega, by omega, by omega, hx, .inr ⟨hh, rfl, rfl⟩⟩)⟩
  · exact ⟨_, _, .inl ⟨hz, rfl, rfl⟩⟩

theorem ret_si {a c : ByteArray} {b d : Int} (h1 : a = c) (h2 : b = d) : Ending.returned (.tuple #[.string a, .int .i64 b]) = .returned (.tuple #[.string c, .int .i64 d]) := by rw [h1, h2]

set_option maxRecDepth 100000 in
set_option maxHeartbeats 8000000 in
theorem Follow_any (p : Option Addr) (n cap : Nat) (l : List Pln) (a b : Int) (s : ByteArray) (w : World) (hE : Env w) (hL : PlnsAt w p l) (hl : l.length = n) (hc : n ≤ cap) (hnm : (n : Int) ≤ 4398046511104) (hF : ∀ y ∈ l, Fit y) (I E : Int) (h : ChkIs l I E) (hs : s.size ≤ 140737488355328) (R : ByteArray) (r : Int) (hr : FolIs l E a b s R r) :
    Calls Tryd.prog 8 #[.slice p n cap, .int .i64 a, .int .i64 b, .string s] w fun e w' => e = .returned (.tuple #[.string R, .int .i64 r]) ∧ Below w.heap.size w w' := by
  have C1 := Lib.hid (between_any p n cap l a b w hE hL hl hc hnm hF I E h)
  have hlen : E = 0 → l.length ≤ 16 := fun hz => by
    rcases h with ⟨_, _, h3⟩ | ⟨h1, _⟩ | ⟨i, h1, _⟩
    · omega
    · exact h1
    · exact h1
  have HLEN := Lib.hid hlen
  have L0 := Lib.hid hL; have E0 := Lib.hid hE; have HF := Lib.hid hF
  have HR := Lib.hid hr
  clear hE hL hl hF h hr hlen
  go_enter Tryd.func8, Tryd.ntmps8
  go_wp2_with fail
  refine C1.out.mono ?_
  rintro e w2 ⟨p2, k, c, q, rfl, hbt, hb⟩
  have B2 := Lib.hid hb
  clear hb
  rcases hbt with ⟨h1, rfl, rfl, rfl, rfl⟩ | ⟨h1, h2, rfl, rfl, rfl, rfl⟩ | ⟨h1, a', b', ha, hb, h3, h4, h5, hk, rfl, h6, h7⟩
  · have hR : Hid (R = emp ∧ r = 1) := by
      show R = emp ∧ r = 1
      rcases HR.out with ⟨_, g⟩ | ⟨g, _⟩ | ⟨g, _⟩
      · exact g
      · exact absurd g h1
      · exact absurd g h1
    clear h1
    go_wp2_with fail
    go_ret2
    exact ⟨ret_si hR.out.1.symm hR.out.2.symm, B2.out⟩
  · have hR : Hid (R = emp ∧ r = 7) := by
      show R = emp ∧ r = 7
      rcases HR.out with ⟨g, _⟩ | ⟨_, _, g⟩ | ⟨_, a', b', x, ha, hb, g1, g2, g3, _⟩
      · exact absurd h1 g
      · exact g
      · omega
    clear h1 h2
    go_wp2_with fail
    go_ret2
    exact ⟨ret_si hR.out.1.symm hR.out.2.symm, B2.out⟩
  · have h16 := HLEN.out h1
    obtain ⟨x, hx⟩ : ∃ x, l[a' - 1]? = some x := ⟨_, List.getElem?_eq_getElem (by omega)⟩
    have hx0 : (subl l a' b')[0]? = some x := by
      unfold subl
      rw [List.getElem?_take, if_pos (by omega), List.getElem?_drop]
      exact hx
    obtain ⟨blk, off, rfl, hpx, hkx⟩ := h6.get hx0
    have PX := Lib.hid (show PlnAt w2 blk off x by simpa using hpx)
    have FX := HF.out x (List.mem_of_getElem? hx)
    have hR : Hid ((has x.cs s = false ∧ R = emp ∧ r = 7) ∨ (has x.cs s = true ∧ R = walkF (subl l a' b') s ∧ r = 0)) := by
      show _ ∨ _
      rcases HR.out with ⟨g, _⟩ | ⟨_, g, _⟩ | ⟨_, a2, b2, y, ha2, hb2, g1, g2, g3, g4, g5⟩
      · exact absurd h1 g
      · omega
      · obtain rfl : a' = a2 := by omega
        obtain rfl : b' = b2 := by omega
        rw [hx] at g4
        obtain rfl := Option.some.inj g4
        exact g5
    have C2 := Lib.hid (Has_any x s w2 hkx FX.n1)
    have hk1 : 0 < k := by omega
    have hk2 : (0 : Int) < (k : Int) := by omega
    have C3 := Lib.hid (fun w1 (h1 : Below w.heap.size w w1) (hn : PlnsAt w1 (some ⟨blk, off, none⟩) (subl l a' b')) => follow_any (some ⟨blk, off, none⟩) k c (subl l a' b') s w1 (E0.out.below h1) hn (by rw [subl_len h3 h4 h5]; exact hk.symm) hk1 (by omega) (fun y hy => by
      obtain ⟨j, hj⟩ := List.getElem?_of_mem hy
      exact HF.out y (List.mem_of_getElem? (subl_get hj).2)) hs)
    have SL := Lib.hid h6
    have zb := PX.out.lt
    have x0 := PX.out.1; have x1 := PX.out.2.1; have x2 := PX.out.2.2.1; have x3 := PX.out.2.2.2.1; have x4 := PX.out.2.2.2.2
    obtain ⟨H, hH⟩ : ∃ H, H = has x.cs s := ⟨_, rfl⟩
    rw [← hH] at C2 hR
    obtain ⟨K, hK⟩ : ∃ K, K = walkF (subl l a' b') s := ⟨_, rfl⟩
    rw [← hK] at C3 hR
    unfold Pln.val at C2
    clear h1 h3 h4 h5 h6 h7 ha hb hk hx hx0 hpx hkx FX hH hK h16 hs
    go_wp2_with fail
    refine C2.out.mono ?_
    rintro e w3 ⟨rfl, hb⟩
    have B3 := Lib.hid (B2.out.trans (hb.mono B2.out.size))
    have SL3 := Lib.hid (SL.out.next hb)
    clear hb x0 x1 x2 x3 x4
    cases H with
    | false =>
      have hR2 : Hid (R = emp ∧ r = 7) := by
        show R = emp ∧ r = 7
        rcases hR.out with h | h
        · exact h.2
        · cases h.1
      go_wp2_with fail
      go_ret2
      exact ⟨ret_si hR2.out.1.symm hR2.out.2.symm, B3.out⟩
    | true =>
      have hR2 : Hid (R = K ∧ r = 0) := by
        show R = K ∧ r = 0
        rcases hR.out with h | h
        · cases h.1
        · exact h.2
      go_wp2_with fail
      refine (C3.out _ B3.out SL3.out).mono ?_
      rintro e w4 ⟨rfl, hb⟩
      have B4 := Lib.hid (B3.out.trans (hb.mono B3.out.size))
      clear hb
      go_wp2_with fail
      go_ret2
      exact ⟨ret_si hR2.out.1.symm hR2.out.2.symm, B4.out⟩

end Go.Proofs.YtbjbioiggjhknaaDoor
