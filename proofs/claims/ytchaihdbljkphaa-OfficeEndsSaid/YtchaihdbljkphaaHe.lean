/-
  heir, Chain and Heir, for any list of offices. No statement of the seat is proved here.
-/
import Derived.Test.YtchaihdbljkphaaCn
namespace Go.Proofs.Ytchaihdbljkphaa
open Go Go.RowKit Go.Maps Go.Joins

def hrV : Option Int → Value
  | some z => .tuple #[.int .i64 z, .bool true]
  | none => .tuple #[.int .i64 0, .bool false]
theorem IRow.nil {w : World} {B : Nat} {r : Value} (h : IRow w B r []) : ∃ p c, r = .slice p 0 c := by
  rcases ownsRow_forms h with ⟨h, _⟩ | ⟨g, cap, h⟩
  · exact ⟨none, 0, h⟩
  · exact ⟨_, cap, h⟩
theorem IRow.get {w : World} {B : Nat} {r : Value} {c : List Int} (h : IRow w B r c) (h0 : c ≠ []) : ∃ g cap, r = .slice (some ⟨g, 0, none⟩) c.length cap ∧ B ≤ g ∧ ∀ (i : Nat) z, c[i]? = some z → w.cell? ⟨g, i, none⟩ = some (.int .i64 z) := by
  rcases ownsRow_forms h with ⟨_, h2⟩ | ⟨g, cap, hr⟩
  · exact absurd (List.length_eq_zero_iff.1 h2) h0
  · refine ⟨g, cap, hr, (World.ownsRow.lt h g (by rw [hr]; rfl)).1, fun i z hz => ?_⟩
    have := World.ownsRow.cells h (g := g) (by rw [hr]; rfl) i (.int .i64 z) (by unfold iw; rw [List.getElem?_map, hz]; rfl)
    rw [Addr.add_lit] at this
    rwa [Nat.zero_add] at this
/-- The chain's last office. -/
theorem hrE_last {m : List Off} {d id : Int} {c : List Int} (h : Ch m d id c) : ∃ z x, c[c.length - 1]? = some z ∧ 0 < c.length ∧ fnd m z = some x ∧ hrE m d c = if inD x d = true then some z else none := by
  obtain ⟨t, ht⟩ := h.ne
  have h0 : 0 < c.length := by rw [ht]; simp
  obtain ⟨z, hz⟩ : ∃ z, c[c.length - 1]? = some z := ⟨_, List.getElem?_eq_getElem (by omega)⟩
  obtain ⟨x, hx, _⟩ := h.at _ z hz
  refine ⟨z, x, hz, h0, hx, ?_⟩
  unfold hrE
  rw [List.getLast?_eq_getElem?, hz]
  simp only
  rw [hx]

set_option maxRecDepth 100000 in
set_option maxHeartbeats 4000000 in
theorem heir_any (v : Value) (m : List Off) (id d : Int) (w : World) (hM : OM w v m) (hi : I64 id) :
    Calls Try.prog 29 #[v, .int .i64 id, .int .i64 d] w fun e w' => e = .returned (hrV (heirF m d id)) ∧ Below w.heap.size w w' := by
  obtain ⟨c, hc, hc2⟩ := hM.gd.chl d id
  rw [heirF_is hc]
  obtain ⟨R, hR⟩ : ∃ R, hrV (hrE m d c) = R := ⟨_, rfl⟩
  rw [hR]
  have HR := Lib.hid hR
  clear hR
  have MV := Lib.hid (fun (u : World) (h : Below w.heap.size w u) => hM.next h)
  have CC := Lib.hid (chain_any v m id d w hM hi c hc hc2)
  have HC := Lib.hid hc
  have C2 := Lib.hid hc2
  clear hM hi hc hc2
  go_enter Try.func29, Try.ntmps29
  go_wp2_with fail
  refine CC.out.mono ?_
  rintro e w1 ⟨r, rfl, hrow, hb⟩
  have N1 := Lib.hid hb
  clear hb CC
  rcases HC.out with ⟨_, e0⟩ | hc
  · subst e0
    obtain ⟨p, cp, rfl⟩ := hrow.nil
    have d0 : (((0 : Nat) : Int) == 0) = true := rfl
    have E : R = .tuple #[.int .i64 0, .bool false] := HR.out.symm
    subst E
    clear hrow
    go_wp2_with fail
    go_ret2
    exact ⟨rfl, N1.out⟩
  · obtain ⟨z, x, hz, h0, hx, hr⟩ := hrE_last hc
    obtain ⟨g, cap, rfl, _, hg⟩ := hrow.get (by intro e; rw [e] at h0; simp at h0)
    have q0 := hg _ z hz
    have zb := World.block_lt_of_cell? w1 _ q0
    have iz : I64 z := by
      have := (MV.out w1 N1.out).ft x (fnd_some hx).1
      rw [← (fnd_some hx).2]
      exact this.1
    have lk := (MV.out w1 N1.out).vm.look1 iz hx
    have fi := fun v => fld_in x.id x.nm x.fr x.un x.np x.nx.length x.nc v
    obtain ⟨n, hn⟩ : ∃ n, c.length = n := ⟨_, rfl⟩
    rw [hn] at q0 h0 ⊢
    have d0 : ((n : Int) == 0) = false := by simp; omega
    have i1 : (0 : Int) ≤ (n : Int) - 1 := by omega
    have i2 : (n : Int) - 1 < (n : Int) := by omega
    have i3 : ((n : Int) - 1).toNat = n - 1 := by omega
    have i4 : IntKind.i64.wrap ((n : Int) - 1) = (n : Int) - 1 := IntWalk.i64_in _ (by have := C2.out; omega)
    have i8 : (1 : Int) ≤ (n : Int) := by omega
    obtain ⟨B, hB⟩ : ∃ B, inD x d = B := ⟨_, rfl⟩
    have HB := Lib.hid hB
    rw [hB] at hr
    have HR2 := Lib.hid hr
    clear hg hz hrow hx hr hB iz
    go_wp2_with fail
    refine (Has_any _ _ _ _).mono ?_
    rintro e w2 ⟨rfl, hb⟩
    rw [has_in, HB.out]
    have N2 := Lib.hid (N1.out.trans (hb.mono N1.out.size))
    clear hb q0 zb lk
    cases B with
    | true =>
      have E : R = .tuple #[.int .i64 z, .bool true] := by rw [← HR.out, HR2.out]; rfl
      subst E
      go_wp2_with fail
      go_ret2
      exact ⟨rfl, N2.out⟩
    | false =>
      have E : R = .tuple #[.int .i64 0, .bool false] := by rw [← HR.out, HR2.out]; rfl
      subst E
      go_wp2_with fail
      go_ret2
      exact ⟨rfl, N2.out⟩

set_option maxRecDepth 100000 in
theorem Chain_any (p : Option Addr) (n c : Nat) (l : List Off) (id d : Int) (w : World) (hE : Env w) (hL : OffsAt w p l) (hl : l.length = n) (hF : ∀ x ∈ l, FitO x) (hi : I64 id) (ch : List Int) (hc : ChL (gl l) d id ch) (hc2 : ch.length ≤ 32) :
    Calls Try.prog 14 #[.slice p n c, .int .i64 id, .int .i64 d] w fun e w' => ∃ r, e = .returned r ∧ IRow w' w.heap.size r ch ∧ Below w.heap.size w w' := by
  have VV := Lib.hid (valid_any p n c l w hE hL hl hF)
  have HI := Lib.hid hi; have HC := Lib.hid hc; have H2 := Lib.hid hc2
  clear hE hL hl hF hi hc hc2
  go_enter Try.func14, Try.ntmps14
  go_wp2_with fail
  refine VV.out.mono ?_
  rintro e w1 ⟨v, rfl, hM, hb⟩
  have N1 := Lib.hid hb
  have CC := Lib.hid (chain_any v _ id d w1 hM HI.out ch HC.out H2.out)
  clear hM hb VV
  go_wp2_with fail
  refine CC.out.mono ?_
  rintro e w2 ⟨r, rfl, hrow, hb⟩
  have R2 : Hid (IRow w2 w.heap.size r ch) := own_base hrow N1.out.size
  have N2 := Lib.hid (N1.out.trans (hb.mono N1.out.size))
  clear hrow hb CC
  go_wp2_with fail
  go_ret
  exact ⟨r, rfl, R2.out, N2.out⟩
set_option maxRecDepth 100000 in
theorem Heir_any (p : Option Addr) (n c : Nat) (l : List Off) (id d : Int) (w : World) (hE : Env w) (hL : OffsAt w p l) (hl : l.length = n) (hF : ∀ x ∈ l, FitO x) (hi : I64 id) :
    Calls Try.prog 11 #[.slice p n c, .int .i64 id, .int .i64 d] w fun e w' => e = .returned (hrV (heirF (gl l) d id)) ∧ Below w.heap.size w w' := by
  have VV := Lib.hid (valid_any p n c l w hE hL hl hF)
  have HI := Lib.hid hi
  obtain ⟨R, hR⟩ : ∃ R, hrV (heirF (gl l) d id) = R := ⟨_, rfl⟩
  rw [hR]
  have HR := Lib.hid hR
  clear hR
  clear hE hL hl hF hi
  go_enter Try.func11, Try.ntmps11
  go_wp2_with fail
  refine VV.out.mono ?_
  rintro e w1 ⟨v, rfl, hM, hb⟩
  have N1 := Lib.hid hb
  have CC := Lib.hid (heir_any v _ id d w1 hM HI.out)
  clear hM hb VV
  go_wp2_with fail
  cases hh : heirF (gl l) d id with
  | none =>
    rw [hh] at CC
    have C2 : Hid (Calls Try.prog 29 #[v, .int .i64 id, .int .i64 d] w1 fun e w' => e = .returned (.tuple #[.int .i64 0, .bool false]) ∧ Below w1.heap.size w1 w') := CC.out
    rw [hh] at HR
    have E : R = .tuple #[.int .i64 0, .bool false] := HR.out.symm
    subst E
    clear CC hh HR
    refine C2.out.mono ?_
    rintro e w2 ⟨rfl, hb⟩
    have N2 := Lib.hid (N1.out.trans (hb.mono N1.out.size))
    clear hb C2
    go_wp2_with fail
    go_ret2
    exact ⟨rfl, N2.out⟩
  | some z =>
    rw [hh] at CC
    have C2 : Hid (Calls Try.prog 29 #[v, .int .i64 id, .int .i64 d] w1 fun e w' => e = .returned (.tuple #[.int .i64 z, .bool true]) ∧ Below w1.heap.size w1 w') := CC.out
    rw [hh] at HR
    have E : R = .tuple #[.int .i64 z, .bool true] := HR.out.symm
    subst E
    clear CC hh HR
    refine C2.out.mono ?_
    rintro e w2 ⟨rfl, hb⟩
    have N2 := Lib.hid (N1.out.trans (hb.mono N1.out.size))
    clear hb C2
    go_wp2_with fail
    go_ret2
    exact ⟨rfl, N2.out⟩

end Go.Proofs.Ytchaihdbljkphaa
