/-
  What the library's calls want of the world, and the reader of one number. No statement of the seat is proved here.
-/
import Derived.Test.YtbjbioiggjhknaaDoorCq
import Derived.Test.YtbjbioiggjhknaaDoorSq
import Derived.Test.YtbjbioiggjhknaaDoorSh
import Derived.ChangeAgain
import Derived.Deep.QuietTactic
import Derived.BigQuiet
namespace Go.Proofs.YtbjbioiggjhknaaDoor
open Go Go.RowKit Go.Shelf

/-- What the library reads of the world. -/
structure Env (w : World) : Prop where
  syn : ∃ tp p, w.var? Tryd.prog "strconv.ErrSyntax" = some #[.iface tp p]
  rng : ∃ tp p, w.var? Tryd.prog "strconv.ErrRange" = some #[.iface tp p]
  tab : Lib.TabIs Tryd.prog w "internal/strconv.uint64pow10" .u64 Lib.pow10Tab
  shp : w.ShapedOpen Tryd.prog

theorem var_below {P : Program} {w w' : World} {name : String} {cs : Array Value} (h : w.var? P name = some cs) (hb : Below w.heap.size w w') : w'.var? P name = some cs := by
  unfold World.var? at h ⊢
  cases hg : P.globalNamed name with
  | none => rw [hg] at h; cases h
  | some g =>
    rw [hg] at h
    simp only [Option.bind_some] at h ⊢
    have hlt : g < w.heap.size := by
      rcases Nat.lt_or_ge g w.heap.size with k | k
      · exact k
      · rw [Array.getElem?_eq_none k] at h; cases h
    rw [hb.block g hlt]; exact h

theorem Env.below {w w' : World} (h : Env w) (hb : Below w.heap.size w w') : Env w' := by
  obtain ⟨⟨t1, p1, h1⟩, ⟨t2, p2, h2⟩, h3, h4⟩ := h
  exact ⟨⟨t1, p1, var_below h1 hb⟩, ⟨t2, p2, var_below h2 hb⟩, var_below h3 hb, h4.keptBut (may := fun _ => False) (hb.frame _) (fun _ h => h.elim)⟩

theorem grow_below (w : World) (k : Nat) (os : Array Obj) : Below w.heap.size w (Sort.grow (w.drewN k) os) :=
  ⟨rfl, rfl, rfl, by show w.heap.size ≤ (w.heap ++ os).size; rw [Array.size_append]; omega, fun j hj => by show (w.heap ++ os)[j]? = w.heap[j]?; rw [Array.getElem?_append_left hj]⟩

set_option maxHeartbeats 1000000 in
theorem From_any (n a b : Int) (w : World) : Calls Tryd.prog 54 #[.int .i64 n, .int .i64 a, .int .i64 b] w fun e w' => e = .returned (.bool (decide (a ≤ n) && decide (n ≤ b))) ∧ w = w' := by
  go_enter Tryd.func54, Tryd.ntmps54
  go_wp2
  all_goals
    go_ret
    refine ⟨congrArg (fun b => Ending.returned (.bool b)) ?_, rfl⟩
    first
      | (have h1 : n < a := by assumption
         rw [decide_eq_false (show ¬ a ≤ n by omega)]; rfl)
      | (have h1 : a ≤ n := by assumption
         rw [decide_eq_true h1]; rfl)
theorem isNumber_any (n : Int) (w : World) : Calls Tryd.prog 48 #[.int .i64 n] w fun e w' => e = .returned (.bool (decide (1 ≤ n) && decide (n ≤ 999))) ∧ w = w' := by
  go_enter Tryd.func48, Tryd.ntmps48
  go_wp2_with fail
  refine (From_any _ _ _ _).mono ?_
  rintro e w' ⟨rfl, rfl⟩
  go_wp2
  go_ret
  exact ⟨rfl, rfl⟩

/-- The number from 0 to MaxID that has a text. -/
def numP (l : List UInt8) : Option Int :=
  match Lib.atoiAll l with
  | .ok n => if 0 ≤ n ∧ n ≤ 1073741824 ∧ Lib.itoa n = l then some n else none
  | _ => none
theorem numOf_numP (l : List UInt8) : numOf l = match numP l with | some n => if 1 ≤ n ∧ n ≤ 999 then some n else none | none => none := by
  unfold numOf numP
  cases h : Lib.atoiAll l with
  | ok n =>
    show (if 1 ≤ n ∧ n ≤ 999 ∧ Lib.itoa n = l then some n else none) = _
    by_cases g : 1 ≤ n ∧ n ≤ 999
    · by_cases k : Lib.itoa n = l
      · rw [if_pos ⟨g.1, g.2, k⟩]
        show _ = (match (if 0 ≤ n ∧ n ≤ 1073741824 ∧ Lib.itoa n = l then some n else none) with | some n => if 1 ≤ n ∧ n ≤ 999 then some n else none | none => none)
        rw [if_pos ⟨by omega, by omega, k⟩]
        show _ = (if 1 ≤ n ∧ n ≤ 999 then some n else none)
        rw [if_pos g]
      · rw [if_neg (fun z => k z.2.2)]
        show _ = (match (if 0 ≤ n ∧ n ≤ 1073741824 ∧ Lib.itoa n = l then some n else none) with | some n => if 1 ≤ n ∧ n ≤ 999 then some n else none | none => none)
        rw [if_neg (fun z => k z.2.2)]
    · rw [if_neg (fun z => g ⟨z.1, z.2.1⟩)]
      show _ = (match (if 0 ≤ n ∧ n ≤ 1073741824 ∧ Lib.itoa n = l then some n else none) with | some n => if 1 ≤ n ∧ n ≤ 999 then some n else none | none => none)
      split
      · rename_i m hm
        split at hm
        · obtain rfl := Option.some.inj hm
          rw [if_neg g]
        · cases hm
      · rfl
  | _ => rfl

/-- What number answers, as a value. -/
def numR (o : Option Int) : Value := match o with | some n => .tuple #[.int .i64 n, .bool true] | none => .tuple #[.int .i64 0, .bool false]

theorem tl (s : ByteArray) : s.toList = bs s := by
  unfold bs
  exact ByteArray.toList_eq s
theorem ba_ne {l : List UInt8} {s : ByteArray} (h : l ≠ bs s) : (l == s.toList) = false := by
  rw [tl, beq_eq_false_iff_ne]; exact h
theorem ba_eq {l : List UInt8} {s : ByteArray} (h : l = bs s) : (l == s.toList) = true := by
  rw [tl, beq_iff_eq]; exact h

set_option maxRecDepth 100000 in
set_option maxHeartbeats 2000000 in
theorem number_any (s : ByteArray) (w : World) (hE : Env w) (hs : s.size ≤ 140737488355328) :
    Calls Tryd.prog 47 #[.string s] w fun e w' => e = .returned (numR (numP (bs s))) ∧ Below w.heap.size w w' := by
  obtain ⟨⟨t1, p1, h1⟩, ⟨t2, p2, h2⟩, h3, h4⟩ := hE
  cases ha : Lib.atoiAll s.data.toList with
  | ok v =>
    have C := Lib.hid (Tryd.strconv_Atoi_ok s (by omega) v ha)
    have E0 : Hid (Env w) := ⟨⟨t1, p1, h1⟩, ⟨t2, p2, h2⟩, h3, h4⟩
    have R : Hid (numP (bs s) = if 0 ≤ v ∧ v ≤ 1073741824 ∧ Lib.itoa v = bs s then some v else none) := by
      unfold numP; show (match Lib.atoiAll s.data.toList with | .ok n => _ | _ => _) = _; rw [ha]
    clear ha h1 h2 h3 h4
    by_cases hv : 0 ≤ v ∧ v ≤ 1073741824
    · have i1 := hv.1; have i2 := hv.2
      have d1 : (decide (0 ≤ v) && decide (v ≤ 1073741824)) = true := by simp [i1, i2]
      have I := Lib.hid (Tryd.strconv_Itoa v (by omega) (by omega))
      obtain ⟨T, hT⟩ : ∃ T, T = Lib.itoa v := ⟨_, rfl⟩
      rw [← hT] at I R
      clear hT hv
      go_enter Tryd.func47, Tryd.ntmps47
      go_wp2_with fail
      refine (C.out _).mono ?_
      rintro e w1 ⟨rfl, hw⟩
      have B1 : Hid (Below w.heap.size w w1) := by
        rcases hw with rfl | ⟨t, rfl⟩
        · exact Below.refl _ _
        · exact Lib.bytesWorld_below _ _ _
      clear hw
      go_wp2_with fail
      refine (From_any _ _ _ _).mono ?_
      rintro e w2 ⟨rfl, rfl⟩
      rw [d1]
      have E1 := E0.out.below B1.out
      have IT := Lib.hid (I.out w1 E1.tab)
      clear E1
      by_cases hT : T = bs s
      · have q := ba_eq hT
        have R2 := Lib.hid (show numP (bs s) = some v by rw [R.out, if_pos ⟨i1, i2, hT⟩])
        clear hT
        go_wp2_with fail
        refine IT.out.mono ?_
        rintro e w3 ⟨rfl, k, os, rfl⟩
        have B2 : Hid (Below w.heap.size w (Sort.grow (w1.drewN k) os)) := B1.out.trans ((grow_below w1 k os).mono B1.out.size)
        obtain ⟨V, hV⟩ : ∃ V, V = Sort.grow (w1.drewN k) os := ⟨_, rfl⟩
        rw [← hV] at B2 ⊢
        clear hV
        go_wp2_with fail
        go_ret2
        rw [R2.out]
        exact ⟨rfl, B2.out⟩
      · have q := ba_ne hT
        have R2 := Lib.hid (show numP (bs s) = none by rw [R.out, if_neg (fun h => hT h.2.2)])
        clear hT
        go_wp2_with fail
        refine IT.out.mono ?_
        rintro e w3 ⟨rfl, k, os, rfl⟩
        have B2 : Hid (Below w.heap.size w (Sort.grow (w1.drewN k) os)) := B1.out.trans ((grow_below w1 k os).mono B1.out.size)
        obtain ⟨V, hV⟩ : ∃ V, V = Sort.grow (w1.drewN k) os := ⟨_, rfl⟩
        rw [← hV] at B2 ⊢
        clear hV
        go_wp2_with fail
        go_ret2
        rw [R2.out]
        exact ⟨rfl, B2.out⟩
    · have d1 : (decide (0 ≤ v) && decide (v ≤ 1073741824)) = false := by
        rw [Bool.and_eq_false_iff]; simp only [decide_eq_false_iff_not]; omega
      have R2 := Lib.hid (show numP (bs s) = none by rw [R.out, if_neg (fun h => hv ⟨h.1, h.2.1⟩)])
      clear hv
      go_enter Tryd.func47, Tryd.ntmps47
      go_wp2_with fail
      refine (C.out _).mono ?_
      rintro e w1 ⟨rfl, hw⟩
      have B1 : Hid (Below w.heap.size w w1) := by
        rcases hw with rfl | ⟨t, rfl⟩
        · exact Below.refl _ _
        · exact Lib.bytesWorld_below _ _ _
      clear hw
      go_wp2_with fail
      refine (From_any _ _ _ _).mono ?_
      rintro e w2 ⟨rfl, rfl⟩
      rw [d1]
      go_wp2_with fail
      go_ret2
      rw [R2.out]
      exact ⟨rfl, B1.out⟩
  | range =>
    have C := Lib.hid (Tryd.strconv_Atoi_range_var s (by omega) ha t2 p2 w h2)
    have R2 : Hid (numP (bs s) = none) := by
      unfold numP; show (match Lib.atoiAll s.data.toList with | .ok n => _ | _ => _) = _; rw [ha]
    obtain ⟨T, hT⟩ : ∃ T, T = Lib.atoiSat s.data.toList := ⟨_, rfl⟩
    rw [← hT] at C
    clear ha h1 h2 h3 h4 hT
    go_enter Tryd.func47, Tryd.ntmps47
    go_wp2_with fail
    refine C.out.mono ?_
    rintro e w1 ⟨N, rfl, _, _, hb⟩
    have B1 := Lib.hid hb
    clear hb
    go_wp2_with fail
    go_ret2
    rw [R2.out]
    exact ⟨rfl, B1.out⟩
  | _ =>
    have C := Lib.hid (Tryd.strconv_Atoi_syntax_var s (by omega) (fun n e => by rw [ha] at e; cases e) (fun e => by rw [ha] at e; cases e) t1 p1 w h1)
    have R2 : Hid (numP (bs s) = none) := by
      unfold numP; show (match Lib.atoiAll s.data.toList with | .ok n => _ | _ => _) = _; rw [ha]
    clear ha h1 h2 h3 h4
    go_enter Tryd.func47, Tryd.ntmps47
    go_wp2_with fail
    refine C.out.mono ?_
    rintro e w1 ⟨N, rfl, _, _, hb⟩
    have B1 := Lib.hid hb
    clear hb
    go_wp2_with fail
    go_ret2
    rw [R2.out]
    exact ⟨rfl, B1.out⟩

end Go.Proofs.YtbjbioiggjhknaaDoor
