/-
  PROVED HERE: the law archivumlaw02.DayKeeps answers true for every input: Years keeps the order of days, a greater number of years gives no earlier day, the result lies between 365 and 366 days a year later or is the last day, and the end of a year is not before the day and has the same year. Condition: the package variable archivum/day.lengths holds what the program's text lays in it (the card ties that). Every int and every byte is spoken of.
-/
import Derived.Test.YtojmolemhdonfabDoorKit
import Derived.Test.YtojmolemhdonfabDoorMath2
namespace Go.Proofs.YtojmolemhdonfabDoor
open Go.ChangeShapes Go.WideShapes Go.ChangeAt Go.RowKit Cal

set_option maxRecDepth 100000 in
set_option maxHeartbeats 2000000 in
/-- The walk behind the example: every answer that the law compares is a plain number, with what is known of it. -/
theorem keeps_in (a b n l x y z t Y : Int) (w : World) (hT : Table w) (h0 : 0 ≤ a) (h1 : a ≤ b) (h2 : b ≤ 1048575) (n0 : 0 ≤ n) (n1 : n ≤ 255) (l0 : 0 ≤ l) (l1 : l ≤ 255)
    (C1 : ∀ w, Table w → Calls Tryd.prog 17 #[.int .i64 a, .int .i64 (n % 101)] w fun e w' => e = .returned (.tuple #[.int .i64 x, .int .i64 0]) ∧ w = w')
    (C2 : ∀ w, Table w → Calls Tryd.prog 17 #[.int .i64 b, .int .i64 (n % 101)] w fun e w' => e = .returned (.tuple #[.int .i64 y, .int .i64 0]) ∧ w = w')
    (C3 : ∀ w, Table w → Calls Tryd.prog 17 #[.int .i64 a, .int .i64 (n % 101 + l % 100)] w fun e w' => e = .returned (.tuple #[.int .i64 z, .int .i64 0]) ∧ w = w')
    (C4 : ∀ w, Table w → Calls Tryd.prog 19 #[.int .i64 a] w fun e w' => e = .returned (.tuple #[.int .i64 t, .int .i64 0]) ∧ w = w')
    (C5 : ∃ m d, ∀ w, Table w → Calls Tryd.prog 13 #[.int .i64 a] w fun e w' => e = .returned (.tuple #[.int .i64 Y, .int .i64 m, .int .i64 d, .int .i64 0]) ∧ w = w')
    (C6 : ∃ m d, ∀ w, Table w → Calls Tryd.prog 13 #[.int .i64 t] w fun e w' => e = .returned (.tuple #[.int .i64 Y, .int .i64 m, .int .i64 d, .int .i64 0]) ∧ w = w')
    (k1 : x ≤ y) (k2 : x ≤ z) (k3 : a ≤ t) (k5 : t = 1048575 ∨ t - a < 366) (k6 : x - a ≤ 366 * (n % 101)) (k7 : x = 1048575 ∨ 365 * (n % 101) ≤ x - a) (k8 : 0 ≤ x) (k9 : x ≤ 1048575) :
    Calls Tryd.prog 9 #[.int .i64 a, .int .i64 b, .int .u8 n, .int .u8 l] w fun e w' => e = .returned (.bool true) ∧ Below w.heap.size w w' := by
  have HT := Lib.hid hT
  obtain ⟨m5, d5, C5⟩ := C5
  obtain ⟨m6, d6, C6⟩ := C6
  have D1 := Lib.hid C1; have D2 := Lib.hid C2; have D3 := Lib.hid C3; have D4 := Lib.hid C4; have D5 := Lib.hid C5; have D6 := Lib.hid C6
  have K5 := Lib.hid k5; have K7 := Lib.hid k7
  clear hT C1 C2 C3 C4 C5 C6 k5 k7
  go_enter Tryd.func9, Tryd.ntmps9
  go_wp2_with fail
  refine (awake_true w HT.out).mono ?_
  rintro e w1 ⟨rfl, hb⟩
  have HT1 := Lib.hid (HT.out.below hb)
  go_wp2_with fail
  refine (D1.out w1 HT1.out).mono ?_
  rintro e w' ⟨rfl, rfl⟩
  go_wp2_with fail
  refine (D2.out w1 HT1.out).mono ?_
  rintro e w' ⟨rfl, rfl⟩
  go_wp2_with fail
  refine (D3.out w1 HT1.out).mono ?_
  rintro e w' ⟨rfl, rfl⟩
  go_wp2_with fail
  refine (D4.out w1 HT1.out).mono ?_
  rintro e w' ⟨rfl, rfl⟩
  go_wp2_with fail
  refine (D5.out w1 HT1.out).mono ?_
  rintro e w' ⟨rfl, rfl⟩
  go_wp2_with fail
  refine (D6.out w1 HT1.out).mono ?_
  rintro e w' ⟨rfl, rfl⟩
  by_cases t1 : t = 1048575
  · have t2 : (t == 1048575) = true := by simp [t1]
    clear t1
    by_cases x1 : x = 1048575
    · have x2 : (x == 1048575) = true := by simp [x1]
      clear x1
      go_wp2
      go_ret
      exact ⟨rfl, hb⟩
    · have x2 : (x == 1048575) = false := by simp [x1]
      have x3 : 365 * (n % 101) ≤ x - a := by have := K7.out; omega
      clear x1
      go_wp2
      go_ret
      exact ⟨rfl, hb⟩
  · have t2 : (t == 1048575) = false := by simp [t1]
    have t3 : t - a < 366 := by have := K5.out; omega
    clear t1
    by_cases x1 : x = 1048575
    · have x2 : (x == 1048575) = true := by simp [x1]
      clear x1
      go_wp2
      go_ret
      exact ⟨rfl, hb⟩
    · have x2 : (x == 1048575) = false := by simp [x1]
      have x3 : 365 * (n % 101) ≤ x - a := by have := K7.out; omega
      clear x1
      go_wp2
      go_ret
      exact ⟨rfl, hb⟩

set_option maxRecDepth 100000 in
set_option maxHeartbeats 1000000 in
theorem keeps_out (a b n l : Int) (w : World) (hT : Table w) (n0 : 0 ≤ n) (n1 : n ≤ 255) (l0 : 0 ≤ l) (l1 : l ≤ 255) (h : a < 0 ∨ b < a ∨ 1048575 < b) :
    Calls Tryd.prog 9 #[.int .i64 a, .int .i64 b, .int .u8 n, .int .u8 l] w fun e w' => e = .returned (.bool true) ∧ Below w.heap.size w w' := by
  have HT := Lib.hid hT
  clear hT
  by_cases h0 : a < 0
  · clear h
    go_enter Tryd.func9, Tryd.ntmps9
    go_wp2_with fail
    refine (awake_true w HT.out).mono ?_
    rintro e w1 ⟨rfl, hb⟩
    go_wp2
    go_ret
    exact ⟨rfl, hb⟩
  have h0' : 0 ≤ a := by omega
  clear h0
  by_cases h1 : b < a
  · clear h
    go_enter Tryd.func9, Tryd.ntmps9
    go_wp2_with fail
    refine (awake_true w HT.out).mono ?_
    rintro e w1 ⟨rfl, hb⟩
    go_wp2
    go_ret
    exact ⟨rfl, hb⟩
  have h1' : a ≤ b := by omega
  have h2 : 1048575 < b := by omega
  clear h h1
  go_enter Tryd.func9, Tryd.ntmps9
  go_wp2_with fail
  refine (awake_true w HT.out).mono ?_
  rintro e w1 ⟨rfl, hb⟩
  go_wp2
  go_ret
  exact ⟨rfl, hb⟩

theorem keeps_any (a b n l : Int) (w : World) (hT : Table w) (n0 : 0 ≤ n) (n1 : n ≤ 255) (l0 : 0 ≤ l) (l1 : l ≤ 255) :
    Calls Tryd.prog 9 #[.int .i64 a, .int .i64 b, .int .u8 n, .int .u8 l] w fun e w' => e = .returned (.bool true) ∧ Below w.heap.size w w' := by
  by_cases h : a < 0 ∨ b < a ∨ 1048575 < b
  · exact keeps_out a b n l w hT n0 n1 l0 l1 h
  have h0 : 0 ≤ a := by omega
  have h1 : a ≤ b := by omega
  have h2 : b ≤ 1048575 := by omega
  obtain ⟨ya, ma, da, hA⟩ := date_exists a h0 (by omega)
  obtain ⟨yb, mb, db, hB⟩ := date_exists b (by omega) h2
  obtain ⟨me, de, hE⟩ := end_date hA
  obtain ⟨e1, e2, e3⟩ := end_bounds hA (by omega)
  have lm := later_mono (k := n % 101) hA hB h1
  have lk := later_more (k := n % 101) (l := l % 100) hA.1 (by omega)
  obtain ⟨u1, u2⟩ := later_bounds (k := n % 101) hA (by omega)
  have hx : lastV (ya + n % 101) ma (day28 ya ma da (n % 101)) = if later ya ma da (n % 101) ≤ 1048575 then later ya ma da (n % 101) else 1048575 := rfl
  have x6 : lastV (ya + n % 101) ma (day28 ya ma da (n % 101)) ≤ 1048575 := by rw [hx]; split <;> omega
  refine keeps_in a b n l (lastV (ya + n % 101) ma (day28 ya ma da (n % 101))) (lastV (yb + n % 101) mb (day28 yb mb db (n % 101))) (lastV (ya + (n % 101 + l % 100)) ma (day28 ya ma da (n % 101 + l % 100))) (lastV ya 12 31) ya w hT h0 h1 h2 n0 n1 l0 l1
    (fun w h => Years_is a _ ya ma da w h h0 (by omega) hA (by omega) (by omega)) (fun w h => Years_is b _ yb mb db w h (by omega) h2 hB (by omega) (by omega))
    (fun w h => Years_is a _ ya ma da w h h0 (by omega) hA (by omega) (by omega)) (fun w h => YearEnd_is a ya ma da w h h0 (by omega) hA)
    ⟨ma, da, fun w h => Date_is a ya ma da w h h0 (by omega) hA⟩ ⟨me, de, fun w h => Date_is _ ya me de w h (by omega) e2 hE⟩
    (last_mono lm) (last_mono lk) e1 e3 ?_ ?_ ?_ x6
  · rw [hx]; split <;> omega
  · rw [hx]; split <;> omega
  · rw [hx]; split <;> omega

set_option maxRecDepth 100000 in
theorem keeps_lifted (os : Os) (started : os.Started) (H : Type) (enc : TypeId × Value → H) :
    ReturnsInHanded {} Tryd.checked os 9 .any (fun w args => (Rows.dayKeepsSpec.pre enc Tryd.prog Tryd.f9 [] false w args ∧ laidMetH Tryd.prog laid1 w) ∧ sizedMet enc Tryd.prog Tryd.f9 (OpenSpec.ofChange Rows.dayKeepsSpec) false w args)
      (Rows.dayKeepsSpec.post enc Tryd.prog Tryd.f9 false true false false) := by
  refine returnsInHanded_of_change_and (C := Tryd.checked) (X := fun w _ => laidMetH Tryd.prog laid1 w) (fun _ _ _ hh h => h.of_heap hh) own started (by kernel_rfl) Tryd.func9
    (ChangeSpec.witness_shaped (enc := enc) (C := Tryd.checked) (os := os) (X := fun w _ => laidMetH Tryd.prog laid1 w) false (World.doorLaid Tryd.prog 400 os) #[.int .i64 0, .int .i64 0, .int .u8 0, .int .u8 0] 8 rfl (World.shaped_of_RefB (by kernel_rfl) (by kernel_rfl)) (by kernel_rfl) (by kernel_rfl) (by kernel_rfl) (door_met os _)) ?_
  intro W base args ds gs before hval0 hW _ _ hL _
  have hval : ∀ (j : Nat) t v, Tryd.f9.params[j]? = some t → args[j]? = some v → Value.okWide Tryd.prog W .any base t v := hval0
  have hW' := hW
  obtain ⟨p, q, hA0, hV, rfl, hfz, hnd⟩ := hW
  have hA : DataW.TrodAll enc Tryd.prog W 0 (fun _ => true) true Tryd.f9.params.toList args.toList ds p := hA0
  rw [Tryd.params9] at hA hval
  obtain ⟨v0, v1, v2, v3, d0, d1, d2, d3, p0, p1, p2, p3, rfl, rfl, rfl, h0, h1, h2, h3⟩ := trodAll_four hA
  obtain ⟨rfl, rfl⟩ := trodVars_none hV
  obtain ⟨a, rfl, rfl, rfl, wa⟩ := open_int Tryd.underlying3 (hval 0 3 v0 rfl rfl) h0
  obtain ⟨b, rfl, rfl, rfl, wb⟩ := open_int Tryd.underlying3 (hval 1 3 v1 rfl rfl) h1
  obtain ⟨n, rfl, rfl, rfl, wn⟩ := open_int Tryd.underlying5 (hval 2 5 v2 rfl rfl) h2
  obtain ⟨l, rfl, rfl, rfl, wl⟩ := open_int Tryd.underlying5 (hval 3 5 v3 rfl rfl) h3
  have bn := wn; simp only [Lit.wf, Bool.and_eq_true, decide_eq_true_eq] at bn
  have bl := wl; simp only [Lit.wf, Bool.and_eq_true, decide_eq_true_eq] at bl
  refine (keeps_any a b n l W (table_of_laid hL) bn.1 bn.2 bl.1 bl.2).mono fun e W' ⟨he, hb⟩ => ?_
  subst he
  exact ⟨_, rfl, post_true rfl rfl (by kernel_rfl) hW' rfl hb⟩

theorem keeps_said : Rows.DayKeepsSaid :=
  OpenClaim.holds_of_wide 9 Tryd.f9 rfl rfl rfl rfl rfl rfl rfl ⟨rfl, rfl, rfl, rfl, rfl⟩ rfl rfl rfl rfl rfl (by kernel_rfl) Tryd.func9 (by kernel_rfl)
    (of_decide_eq_true (by kernel_rfl)) (by unfold Func.isWrapper; first | (rw [if_pos (by decide +kernel)]; kernel_rfl) | (rw [if_neg (by decide +kernel)]; exact ⟨rfl, rfl⟩))
    (fun os started H enc _ => keeps_lifted os started H enc)

theorem keeps_holds : Rows.DayKeepsCardSaid :=
  Claim7.holds_tied_plain_at .later [] [.data] true (true, "a8739655e9557d7c018a4fd303c4d1567818996deea4156720fd0d785a0dfc65") false
    keeps_said (fun _ h => by cases h) (by kernel_rfl) (fun _ h => by cases h) dayKeeps_row_tie rfl ⟨rfl, rfl⟩ (by kernel_rfl) rfl
    (fun f fn hf hfn => by
      obtain rfl : f = 9 := Option.some.inj ((show Tryd.prog.funcNamed "archivum/archivumlaw02.DayKeeps" = some 9 by kernel_rfl).symm.trans hf) |>.symm
      obtain rfl : fn = Tryd.f9 := (Option.some.inj (Tryd.func9.symm.trans hfn)).symm
      exact ⟨by kernel_rfl, fun j t ht => by
        rw [Tryd.params9] at ht
        have hm : t ∈ [3, 3, 5, 5] := by simpa using Array.mem_of_getElem? ht
        have hall : ([3, 3, 5, 5].all fun u => !Tryd.prog.wantsStandIn u) = true := by kernel_rfl
        exact (show Tryd.prog.wantsStandIn t = false by simpa using List.all_eq_true.1 hall t hm)⟩)
    (by kernel_rfl)
#print axioms keeps_holds
end Go.Proofs.YtojmolemhdonfabDoor
