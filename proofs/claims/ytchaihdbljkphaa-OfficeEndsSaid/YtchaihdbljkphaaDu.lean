/-
  Sorting a row of numbers; Duties, for any list of offices. No statement of the seat is proved here.
-/
import Derived.Test.YtchaihdbljkphaaHe
import Derived.Lib.OwnBridge
import Derived.Sort.Grow
import Derived.Laws.IdiomRangeMap
namespace Go.Proofs.Ytchaihdbljkphaa
open Go Go.RowKit Go.Maps Go.Joins Go.Sort

def msort (l : List Int) : List Int := l.mergeSort fun x y => decide (x ≤ y)
theorem msort_perm (l : List Int) : (msort l).Perm l := List.mergeSort_perm l _
theorem msort_nil : msort [] = [] := by simp [msort]
theorem msort_lt {l : List Int} (h : l.Nodup) : (msort l).Pairwise (· < ·) := by
  have h1 : (msort l).Pairwise (fun x y => decide (x ≤ y) = true) := List.pairwise_mergeSort (fun a b c h1 h2 => by
    have := of_decide_eq_true h1
    have := of_decide_eq_true h2
    exact decide_eq_true (by omega)) (fun a b => by
    rw [Bool.or_eq_true, decide_eq_true_iff, decide_eq_true_iff]
    omega) l
  have h2 : (msort l).Nodup := (msort_perm l).nodup_iff.2 h
  refine (h1.and h2).imp fun {a b} h => ?_
  have := of_decide_eq_true h.1
  have := h.2
  omega
theorem IRow.kept {w w' : World} {B : Nat} {v : Value} {l : List Int} {row : Option Nat} (h : IRow w B v l) (hg : w.grownBy w' row) (hne : v.ownBlock = none ∨ v.ownBlock ≠ row) : IRow w' B v l := World.ownsRow.kept h hg hne
theorem grow_row (w : World) (os : Array Obj) (row : Option Nat) : w.grownBy (grow w os) row :=
  ⟨rfl, rfl, rfl, by show w.heap.size ≤ (w.heap ++ os).size; rw [Array.size_append]; omega, fun k hk _ => heap_grow_old w os hk⟩
theorem sort_row (v : Value) (zs : List Int) (B : Nat) (w : World) (h : IRow w B v zs) (hz : zs.length ≤ 100000) :
    Calls Try.prog 39 #[v] w fun e w' => e = .returned (.tuple #[]) ∧ IRow w' B v (msort zs) ∧ ∀ A u, B ≥ A → Below A u w → Below A u w' := by
  by_cases hv : v = .slice none 0 0
  · have h0 : zs = [] := by
      rcases h.2 with ⟨_, h2⟩ | ⟨g, cap, cur, e, _⟩
      · exact List.length_eq_zero_iff.1 h2
      · rw [hv] at e; cases e
    subst hv
    subst h0
    refine (Try.slices_Sort_int_none none 0 w).mono ?_
    rintro e w' ⟨rfl, rfl⟩
    exact ⟨rfl, by rw [msort_nil]; exact h, fun _ _ _ h => h⟩
  · obtain ⟨g, cap, rfl, hb, hg, _, _, _, hH⟩ := Go.Lib.holds_of_ownsRow (enc := Value.int .i64) h hv
    refine (Try.slices_Sort_int g 0 cap zs w hH hg (by omega)).mono ?_
    rintro e w' ⟨rfl, n, os, rfl⟩
    have hl : (msort zs).length = zs.length := (msort_perm zs).length_eq
    have h2 := Go.Lib.ownsRow_putRow (q := n) (ys := msort zs) h hl (Nat.le_refl _)
    rw [List.take_of_length_le (by omega)] at h2
    refine ⟨rfl, ?_, fun A u hA hb2 => ?_⟩
    · have h3 : IRow (putRow (Value.int .i64) (Sort.ahead w n) g 0 (msort zs).toArray) B (.slice (some ⟨g, 0, none⟩) zs.length cap) (msort zs) := by
        unfold IRow
        rw [hl]
        exact h2
      exact h3.kept (grow_row _ os none) (.inr (by simp [Value.ownBlock]))
    · have hp := Go.Lib.below_putRow (enc := Value.int .i64) (q := n) (d := (msort zs).toArray) hb2 (show A ≤ g by omega)
      have hs := (Go.Lib.below_putRow (enc := Value.int .i64) (q := n) (g := g) (d := (msort zs).toArray) (RowKit.Below.refl 0 w) (Nat.zero_le _)).size
      exact ⟨hp.os, hp.tape, hp.output, Nat.le_trans hp.size (grow_row _ os none).size, fun k hk => ((grow_row _ os none).block k (Nat.lt_of_lt_of_le (Nat.lt_of_lt_of_le hk (by omega : A ≤ w.heap.size)) hs) (by simp)).trans (hp.block k hk)⟩

theorem same_int (z x : Int) : (Lit.int .i64 z).sameKey (.int .i64 x) = decide (z = x) := by
  simp [Lit.sameKey]
/-- One more key of the range: it is wanted, or it is not. -/
theorem out_no {D : DataW Unit} {left : Lit → Bool} {out : List Int} {P : Int → Prop} {x : Int} (h : ∀ z : Int, z ∈ out ↔ Maps.has D (.int .i64 z) = true ∧ left (.int .i64 z) = false ∧ P z) (hp : ¬ P x) :
    ∀ z : Int, z ∈ out ↔ Maps.has D (.int .i64 z) = true ∧ (left (.int .i64 z) && !(Lit.int .i64 z).sameKey (.int .i64 x)) = false ∧ P z := by
  intro z
  rw [h, same_int]
  constructor
  · rintro ⟨a, b, c⟩
    exact ⟨a, by rw [b]; rfl, c⟩
  · rintro ⟨a, b, c⟩
    refine ⟨a, ?_, c⟩
    by_cases e : z = x
    · subst e
      exact absurd c hp
    · rw [decide_eq_false e] at b
      simpa using b
theorem out_yes {D : DataW Unit} {left : Lit → Bool} {out : List Int} {P : Int → Prop} {x : Int} (h : ∀ z : Int, z ∈ out ↔ Maps.has D (.int .i64 z) = true ∧ left (.int .i64 z) = false ∧ P z) (hp : P x) (hx : Maps.has D (.int .i64 x) = true) :
    ∀ z : Int, z ∈ out ++ [x] ↔ Maps.has D (.int .i64 z) = true ∧ (left (.int .i64 z) && !(Lit.int .i64 z).sameKey (.int .i64 x)) = false ∧ P z := by
  intro z
  rw [List.mem_append, List.mem_singleton, h, same_int]
  constructor
  · rintro (⟨a, b, c⟩ | rfl)
    · exact ⟨a, by rw [b]; rfl, c⟩
    · exact ⟨hx, by simp, hp⟩
  · rintro ⟨a, b, c⟩
    by_cases e : z = x
    · exact .inr e
    · rw [decide_eq_false e] at b
      exact .inl ⟨a, by simpa using b, c⟩

set_option maxRecDepth 100000 in
set_option maxHeartbeats 8000000 in
theorem Duties_any (p : Option Addr) (n c : Nat) (l : List Off) (id d : Int) (w : World) (hE : Env w) (hL : OffsAt w p l) (hl : l.length = n) (hF : ∀ x ∈ l, FitO x) :
    Calls Try.prog 18 #[.slice p n c, .int .i64 id, .int .i64 d] w fun e w' => ∃ r, e = .returned r ∧ IRow w' w.heap.size r (dutL (gl l) id d) ∧ Below w.heap.size w w' := by
  have VV := Lib.hid (valid_any p n c l w hE hL hl hF)
  have GG := Lib.hid (gl_good l)
  obtain ⟨m, hm⟩ : ∃ m, gl l = m := ⟨_, rfl⟩
  rw [hm] at VV GG ⊢
  clear hE hL hl hF hm
  go_enter Try.func18, Try.ntmps18
  go_wp2_with fail
  refine VV.out.mono ?_
  rintro e w1 ⟨v, rfl, hM, hb⟩
  have N1 := Lib.hid hb
  have MV := Lib.hid (fun (u : World) (h : Below w1.heap.size w1 u) => hM.next h)
  have VM1 := hM.vm
  clear hM hb VV
  rcases VM1 with ⟨rfl, h0⟩ | ⟨b, rfl, hq⟩
  · subst h0
    have hrg := run_range_nilMap (P := Try.prog) w1 51 3 43 Try.underlying51
    have hnx : ∀ ty, (Instr.next (.pointer (some ⟨w1.heap.size, 0, none⟩)) false ty).run Try.prog (w1.alloc (.mapIter none 0 #[] 0)) = _ := fun ty => run_next_nilMap _ ty 0 0 #[]
    have SR := Lib.hid (fun u => sort_row (.slice none 0 0) [] w.heap.size u (World.ownsRow_nil _ _ _ _) (by simp))
    go_wp2_with fail
    refine wp_loop_rounds 1 ?_
    rw [rounds_succ]
    go_wp2_with fail
    refine (SR.out _).mono ?_
    rintro e w2 ⟨rfl, hrow, hb⟩
    have R2 := Lib.hid hrow
    have B2 := Lib.hid (hb w.heap.size w (Nat.le_refl _) (N1.out.alloc N1.out.size _))
    clear hrow hb
    go_wp2_with fail
    go_ret
    exact ⟨_, rfl, by have := R2.out; rw [msort_nil] at this; exact this, B2.out⟩
  · obtain ⟨D, k, hown, hk, h3, h4⟩ := hq
    have H4 := Lib.hid h4
    have BLT := Lib.hid hown.lt
    have SZ : Hid (Maps.size D ≤ 32) := Nat.le_trans hown.size_le (Nat.le_trans hk GG.out.1)
    clear h3 h4
    go_wp2_with (first
      | (at_range; refine wpList_range_own _ rfl _ 51 rfl 3 43 (int_keyed Try.underlying3) Try.underlying51 (offR m) b k D rfl hown ?_; intro w0 hrg0 hg0 hs0)
      | fail)
    go_frame
    obtain ⟨rr, hrr⟩ : ∃ rr, rr = w1.heap.size := ⟨_, rfl⟩
    rw [← hrr] at hrg0 hs0 ⊢
    have HRR := Lib.hid hrr
    have RG0 := Lib.hid hrg0
    have B0 : Hid (Below w1.heap.size w1 w0) := (RowKit.Below.refl _ _).grown hg0 (Nat.le_refl _) (fun j e => by cases e)
    have S0 := Lib.hid hs0
    clear hown hrg0 hg0 hs0 hrr
    go_loopw [8] (fun ids wr => ∃ (left : Lit → Bool) (cnt : Nat) (out : List Int), wr.ranges Try.prog 3 (offR m) b rr k D left cnt ∧ IRow wr (rr + 1) ids out ∧ out.Nodup ∧ out.length + cnt ≤ Maps.size D ∧
        (∀ z : Int, z ∈ out ↔ Maps.has D (.int .i64 z) = true ∧ left (.int .i64 z) = false ∧ heirF m d z = some id) ∧ (∀ kl, left kl = true → Maps.has D kl = true) ∧ Below w1.heap.size w1 wr ∧ rr + 1 ≤ wr.heap.size)
      (fun _ wr => wr.rangeLeft b rr)
    case atStart =>
      refine ⟨_, _, [], RG0.out, World.ownsRow_nil _ _ _ _, List.nodup_nil, by simp, fun z => ⟨(fun h => by cases h), fun h => ?_⟩, fun _ h => h, B0.out, by rw [S0.out]; exact Nat.le_refl _⟩
      obtain ⟨h1, h2, _⟩ := h
      rw [h1] at h2
      cases h2
    case round =>
      obtain ⟨left, cnt, out, hrg, hrow, hnd, hcs, hout, hlh, hB, hsz⟩ := hrel
      have RG := Lib.hid hrg; have RW := Lib.hid hrow; have ND := Lib.hid hnd; have CS := Lib.hid hcs; have OU := Lib.hid hout; have LH := Lib.hid hlh; have NB := Lib.hid hB; have NS := Lib.hid hsz
      clear hrow hnd hcs hout hlh hB hsz RG0 B0 S0
      go_wp2_with (first
        | (at_next; refine wpList_next_ranges (α := Int) (β := Value) _ rfl _ rfl 3 (int_keyed Try.underlying3) (offR m) (Value.int .i64) (fun v => v) (fun key kl h => by obtain ⟨x, rfl, _⟩ := Maps.keyOf_int_inv Try.underlying3 h; exact ⟨x, rfl⟩) (fun v y _ => ⟨v, rfl⟩) b rr k D left cnt rfl hrg ?_ ?_)
        | fail)
      · intro hc0 hl0
        have HL0 := Lib.hid hl0
        have SR := Lib.hid (fun u h => sort_row u8 out (rr + 1) u h (by have := CS.out; have := SZ.out; omega))
        clear hrg hc0 hl0
        go_wp2_with fail
        refine (SR.out wr RW.out).mono ?_
        rintro e w2 ⟨rfl, hrow, hb⟩
        have R2 : Hid (IRow w2 w.heap.size u8 (dutL m id d)) := by
          show IRow _ _ _ _
          rw [← dutL_is GG.out id d (msort_lt ND.out) (fun z => by
            rw [(msort_perm out).mem_iff, OU.out z, H4.out z, HL0.out]
            constructor
            · rintro ⟨h1, _, h2⟩
              exact ⟨Option.isSome_iff_exists.1 h1, h2⟩
            · rintro ⟨h1, h2⟩
              exact ⟨Option.isSome_iff_exists.2 h1, rfl, h2⟩)]
          exact own_base hrow (by have := HRR.out; have := N1.out.size; omega)
        have B2 : Hid (Below w.heap.size w w2) := hb w.heap.size w (by have := HRR.out; have := N1.out.size; omega) (N1.out.trans (NB.out.mono N1.out.size))
        clear hrow hb SR
        go_wp2_with fail
        go_ret
        exact ⟨_, rfl, R2.out, B2.out⟩
      · intro x cv kl y ps w2 cnt1 hkey hlk _ _ hrg1 hlt hg1 hs1 hen
        obtain ⟨x', ex, rfl, _⟩ := Maps.keyOf_int_inv Try.underlying3 hkey
        cases ex
        have hx : Maps.has D (.int .i64 x) = true := LH.out _ hlk
        obtain ⟨o, ho⟩ := Option.isSome_iff_exists.1 ((H4.out x).symm.trans hx)
        have ix : I64 x := by
          have := (MV.out w1 (RowKit.Below.refl _ _)).ft o (fnd_some ho).1
          rw [← (fnd_some ho).2]
          exact this.1
        have NB2 : Hid (Below w1.heap.size w1 w2) := NB.out.grown hg1 (by have := NB.out.size; exact this) (fun j e => by cases e; rw [HRR.out]; exact Nat.le_refl _)
        have NS2 : Hid (rr + 1 ≤ w2.heap.size) := by show _ ≤ _; rw [hs1]; exact NS.out
        have R2 : Hid (IRow w2 (rr + 1) u8 out) := RW.out.kept hg1 (by
          by_cases e : u8.ownBlock = none
          · exact .inl e
          · refine .inr fun q => ?_
            have := (World.ownsRow.lt RW.out rr q).1
            omega)
        have RG1 := Lib.hid hrg1
        have LT := Lib.hid hlt
        have HX := Lib.hid hx; have HLK := Lib.hid hlk
        have HH := Lib.hid (fun u h => heir_any (.map (some b)) m x d u (MV.out u h) ix)
        clear hrg hkey hrg1 hlt hg1 hs1 hx ho hlk ix
        go_wp2_with fail
        cases hh : heirF m d x with
        | none =>
          have H2 : Hid (Calls Try.prog 29 #[.map (some b), .int .i64 x, .int .i64 d] w2 fun e w' => e = .returned (.tuple #[.int .i64 0, .bool false]) ∧ Below w2.heap.size w2 w') := by
            have := HH.out w2 NB2.out
            rw [hh] at this
            exact this
          clear HH
          refine H2.out.mono ?_
          rintro e w3 ⟨rfl, hb⟩
          have RG3 := Lib.hid (RG1.out.kept (row := none) ⟨hb.os, hb.tape, hb.output, hb.size, fun k hk _ => hb.block k hk⟩ (by simp) (by simp))
          have R3 := Lib.hid (R2.out.next hb)
          have NB3 := Lib.hid (NB2.out.trans (hb.mono NB2.out.size))
          have NS3 : Hid (rr + 1 ≤ w3.heap.size) := Nat.le_trans NS2.out hb.size
          clear hb hen
          have OU2 := Lib.hid (out_no (P := fun z => heirF m d z = some id) OU.out (x := x) (by rw [hh]; exact (fun e => by cases e)))
          clear hh
          go_wp2_with fail
          go_roundw
          case rel => exact ⟨_, cnt1, out, RG3.out, R3.out, ND.out, by have := CS.out; have := LT.out; omega, OU2.out, fun kl h => LH.out kl (by rw [Bool.and_eq_true] at h; exact h.1), NB3.out, NS3.out⟩
          case measure => rw [RG3.out.left_eq, RG.out.left_eq]; exact LT.out
        | some h =>
          have H2 : Hid (Calls Try.prog 29 #[.map (some b), .int .i64 x, .int .i64 d] w2 fun e w' => e = .returned (.tuple #[.int .i64 h, .bool true]) ∧ Below w2.heap.size w2 w') := by
            have := HH.out w2 NB2.out
            rw [hh] at this
            exact this
          clear HH
          refine H2.out.mono ?_
          rintro e w3 ⟨rfl, hb⟩
          have RG3 := Lib.hid (RG1.out.kept (row := none) ⟨hb.os, hb.tape, hb.output, hb.size, fun k hk _ => hb.block k hk⟩ (by simp) (by simp))
          have R3 := Lib.hid (R2.out.next hb)
          have NB3 := Lib.hid (NB2.out.trans (hb.mono NB2.out.size))
          have NS3 : Hid (rr + 1 ≤ w3.heap.size) := Nat.le_trans NS2.out hb.size
          clear hb hen
          by_cases hid : h = id
          · have d1 : (h == id) = true := by rw [hid]; simp
            have OU2 := Lib.hid (out_yes (P := fun z => heirF m d z = some id) OU.out (x := x) (by rw [hh, hid]) HX.out)
            have ND2 : Hid (out ++ [x]).Nodup := by
              show List.Nodup _
              rw [List.nodup_append]
              refine ⟨ND.out, by simp, fun a ha q hq e => ?_⟩
              obtain rfl := List.mem_singleton.1 hq
              subst e
              have := ((OU.out a).1 ha).2.1
              rw [HLK.out] at this
              cases this
            obtain ⟨i0, hi, hz0, hz1, hz2⟩ := info_parts info3
            have kk : out.length ≤ 32 := by have := CS.out; have := SZ.out; omega
            clear hh hid
            go_wp2_with (at_builtin; refine wpList_append_own _ rfl _ _ 28 rfl (rr + 1) 3 i0 (.int .i64 0) 1 8 Try.underlying28 hi hz0 hz1 hz2 rfl (by decide) _ _ _ rfl (World.ownsRow.alloc R3.out _) ⟨w3.heap.size, 0, none⟩ 1 1 [.int .i64 x] rfl rfl (cell_one_new _ _ _) (by simp [Value.oneCell']) (by unfold maxLen; omega) (by omega) (by have := NS3.out; simp; omega) ?_; intro v' w4 hown4 hgrow4 _)
            have B4 : Hid (Below w1.heap.size w1 w4) := (NB3.out.alloc NB3.out.size (.cells #[.int .i64 x] 3)).grown hgrow4 (by have := NB3.out.size; simp; omega) (fun j e => by
              have := (World.ownsRow.lt R3.out j e).1
              have := HRR.out
              omega)
            have S4 : Hid (rr + 1 ≤ w4.heap.size) := by
              have := hgrow4.size
              have := NS3.out
              simp at *
              show _ ≤ _
              omega
            have RG4 := Lib.hid ((RG3.out.alloc (.cells #[.int .i64 x] 3)).kept hgrow4 (fun e => by
              have := (World.ownsRow.lt R3.out b e.symm).1
              have := BLT.out
              have := HRR.out
              omega) (fun e => by
              have := (World.ownsRow.lt R3.out rr e.symm).1
              omega))
            have R4 : Hid (IRow w4 (rr + 1) v' (out ++ [x])) := by
              show World.ownsRow _ _ _ _ _ _ _
              rw [List.length_append, List.length_singleton, ← iw_snoc]
              exact hown4
            clear hown4 hgrow4
            go_wp2_with fail
            go_roundw
            case rel => exact ⟨_, cnt1, out ++ [x], RG4.out, R4.out, ND2.out, by have := CS.out; have := LT.out; rw [List.length_append, List.length_singleton]; omega, OU2.out, fun kl h => LH.out kl (by rw [Bool.and_eq_true] at h; exact h.1), B4.out, S4.out⟩
            case measure => rw [RG4.out.left_eq, RG.out.left_eq]; exact LT.out
          · have d1 : (h == id) = false := by simp [hid]
            have OU2 := Lib.hid (out_no (P := fun z => heirF m d z = some id) OU.out (x := x) (by rw [hh]; exact (fun e => hid (Option.some.inj e))))
            clear hh
            go_wp2_with fail
            go_roundw
            case rel => exact ⟨_, cnt1, out, RG3.out, R3.out, ND.out, by have := CS.out; have := LT.out; omega, OU2.out, fun kl h => LH.out kl (by rw [Bool.and_eq_true] at h; exact h.1), NB3.out, NS3.out⟩
            case measure => rw [RG3.out.left_eq, RG.out.left_eq]; exact LT.out

end Go.Proofs.Ytchaihdbljkphaa
