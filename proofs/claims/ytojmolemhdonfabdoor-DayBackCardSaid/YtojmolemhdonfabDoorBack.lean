/-
  PROVED HERE: the law archivumlaw02.DayBack answers true for every number and every text: a day is that of its date and of its text, and every text that is read is that of the day. Condition: the package variable archivum/day.lengths holds what the program's text lays in it (the card ties that). Every int and every string is spoken of (beyond 40 bytes the law itself asks nothing).
-/
import Derived.Test.YtojmolemhdonfabDoorKit
import Derived.Test.YtojmolemhdonfabDoorText
import Derived.ChangeMaps5
namespace Go.Proofs.YtojmolemhdonfabDoor
open Go.ChangeShapes Go.WideShapes Go.ChangeAt Go.RowKit Cal
open Go.ChangeMaps (open_string)

set_option maxRecDepth 100000 in
set_option maxHeartbeats 2000000 in
theorem back_day_good (n : Int) (s : ByteArray) (y m d : Int) (S : ByteArray) (x : Int) (w : World) (hT : Table w) (hs : (s.size : Int) ≤ 40) (h0 : 0 ≤ n) (h1 : n ≤ 1048575)
    (C1 : ∀ w, Table w → Calls Tryd.prog 13 #[.int .i64 n] w fun e w' => e = .returned (.tuple #[.int .i64 y, .int .i64 m, .int .i64 d, .int .i64 0]) ∧ w = w')
    (C2 : ∀ w, Table w → Calls Tryd.prog 23 #[.int .i64 n] w fun e w' => e = .returned (.tuple #[.string S, .int .i64 0]) ∧ Below w.heap.size w w')
    (C3 : ∀ w, Table w → Calls Tryd.prog 11 #[.int .i64 y, .int .i64 m, .int .i64 d] w fun e w' => e = .returned (.tuple #[.int .i64 n, .int .i64 0]) ∧ w = w')
    (C4 : ∀ w, Table w → Calls Tryd.prog 25 #[.string S] w fun e w' => e = .returned (.tuple #[.int .i64 n, .int .i64 0]) ∧ w = w')
    (C5 : ∀ w, Table w → Calls Tryd.prog 25 #[.string s] w fun e w' => e = .returned (.tuple #[.int .i64 x, .int .i64 0]) ∧ w = w')
    (C6 : ∀ w, Table w → Calls Tryd.prog 23 #[.int .i64 x] w fun e w' => e = .returned (.tuple #[.string s, .int .i64 0]) ∧ Below w.heap.size w w') :
    Calls Tryd.prog 8 #[.int .i64 n, .string s] w fun e w' => e = .returned (.bool true) ∧ Below w.heap.size w w' := by
  have HT := Lib.hid hT
  have D1 := Lib.hid C1; have D2 := Lib.hid C2; have D3 := Lib.hid C3; have D4 := Lib.hid C4; have D5 := Lib.hid C5; have D6 := Lib.hid C6
  clear hT C1 C2 C3 C4 C5 C6
  go_enter Tryd.func8, Tryd.ntmps8
  go_wp2_with fail
  refine (awake_true w HT.out).mono ?_
  rintro e w1 ⟨rfl, hb⟩
  have HT1 := Lib.hid (HT.out.below hb)
  have HB := Lib.hid hb
  clear hb
  go_wp2_with fail
  refine (D1.out w1 HT1.out).mono ?_
  rintro e w' ⟨rfl, rfl⟩
  go_wp2_with fail
  refine (D2.out w1 HT1.out).mono ?_
  rintro e w2 ⟨rfl, hb2⟩
  have HT2 := Lib.hid (HT1.out.below hb2)
  have HB2 := Lib.hid (HB.out.trans (hb2.mono HB.out.size))
  clear hb2
  go_wp2_with fail
  refine (D3.out w2 HT2.out).mono ?_
  rintro e w' ⟨rfl, rfl⟩
  go_wp2_with fail
  refine (D4.out w2 HT2.out).mono ?_
  rintro e w' ⟨rfl, rfl⟩
  go_wp2_with fail
  refine (D5.out w2 HT2.out).mono ?_
  rintro e w' ⟨rfl, rfl⟩
  go_wp2_with fail
  refine (D6.out w2 HT2.out).mono ?_
  rintro e w3 ⟨rfl, hb3⟩
  have HB3 := Lib.hid (HB2.out.trans (hb3.mono HB2.out.size))
  clear hb3
  go_wp2
  go_ret
  exact ⟨rfl, HB3.out⟩

set_option maxRecDepth 100000 in
set_option maxHeartbeats 2000000 in
theorem back_day_2 (n : Int) (s : ByteArray) (y m d : Int) (S : ByteArray) (w : World) (hT : Table w) (hs : (s.size : Int) ≤ 40) (h0 : 0 ≤ n) (h1 : n ≤ 1048575)
    (C1 : ∀ w, Table w → Calls Tryd.prog 13 #[.int .i64 n] w fun e w' => e = .returned (.tuple #[.int .i64 y, .int .i64 m, .int .i64 d, .int .i64 0]) ∧ w = w')
    (C2 : ∀ w, Table w → Calls Tryd.prog 23 #[.int .i64 n] w fun e w' => e = .returned (.tuple #[.string S, .int .i64 0]) ∧ Below w.heap.size w w')
    (C3 : ∀ w, Table w → Calls Tryd.prog 11 #[.int .i64 y, .int .i64 m, .int .i64 d] w fun e w' => e = .returned (.tuple #[.int .i64 n, .int .i64 0]) ∧ w = w')
    (C4 : ∀ w, Table w → Calls Tryd.prog 25 #[.string S] w fun e w' => e = .returned (.tuple #[.int .i64 n, .int .i64 0]) ∧ w = w')
    (C5 : ∀ w, Table w → Calls Tryd.prog 25 #[.string s] w fun e w' => e = .returned (.tuple #[.int .i64 0, .int .i64 2]) ∧ w = w') :
    Calls Tryd.prog 8 #[.int .i64 n, .string s] w fun e w' => e = .returned (.bool true) ∧ Below w.heap.size w w' := by
  have HT := Lib.hid hT
  have D1 := Lib.hid C1; have D2 := Lib.hid C2; have D3 := Lib.hid C3; have D4 := Lib.hid C4; have D5 := Lib.hid C5
  clear hT C1 C2 C3 C4 C5
  go_enter Tryd.func8, Tryd.ntmps8
  go_wp2_with fail
  refine (awake_true w HT.out).mono ?_
  rintro e w1 ⟨rfl, hb⟩
  have HT1 := Lib.hid (HT.out.below hb)
  have HB := Lib.hid hb
  clear hb
  go_wp2_with fail
  refine (D1.out w1 HT1.out).mono ?_
  rintro e w' ⟨rfl, rfl⟩
  go_wp2_with fail
  refine (D2.out w1 HT1.out).mono ?_
  rintro e w2 ⟨rfl, hb2⟩
  have HT2 := Lib.hid (HT1.out.below hb2)
  have HB2 := Lib.hid (HB.out.trans (hb2.mono HB.out.size))
  clear hb2
  go_wp2_with fail
  refine (D3.out w2 HT2.out).mono ?_
  rintro e w' ⟨rfl, rfl⟩
  go_wp2_with fail
  refine (D4.out w2 HT2.out).mono ?_
  rintro e w' ⟨rfl, rfl⟩
  go_wp2_with fail
  refine (D5.out w2 HT2.out).mono ?_
  rintro e w' ⟨rfl, rfl⟩
  go_wp2
  go_ret
  exact ⟨rfl, HB2.out⟩

set_option maxRecDepth 100000 in
set_option maxHeartbeats 2000000 in
theorem back_day_3 (n : Int) (s : ByteArray) (y m d : Int) (S : ByteArray) (w : World) (hT : Table w) (hs : (s.size : Int) ≤ 40) (h0 : 0 ≤ n) (h1 : n ≤ 1048575)
    (C1 : ∀ w, Table w → Calls Tryd.prog 13 #[.int .i64 n] w fun e w' => e = .returned (.tuple #[.int .i64 y, .int .i64 m, .int .i64 d, .int .i64 0]) ∧ w = w')
    (C2 : ∀ w, Table w → Calls Tryd.prog 23 #[.int .i64 n] w fun e w' => e = .returned (.tuple #[.string S, .int .i64 0]) ∧ Below w.heap.size w w')
    (C3 : ∀ w, Table w → Calls Tryd.prog 11 #[.int .i64 y, .int .i64 m, .int .i64 d] w fun e w' => e = .returned (.tuple #[.int .i64 n, .int .i64 0]) ∧ w = w')
    (C4 : ∀ w, Table w → Calls Tryd.prog 25 #[.string S] w fun e w' => e = .returned (.tuple #[.int .i64 n, .int .i64 0]) ∧ w = w')
    (C5 : ∀ w, Table w → Calls Tryd.prog 25 #[.string s] w fun e w' => e = .returned (.tuple #[.int .i64 0, .int .i64 3]) ∧ w = w') :
    Calls Tryd.prog 8 #[.int .i64 n, .string s] w fun e w' => e = .returned (.bool true) ∧ Below w.heap.size w w' := by
  have HT := Lib.hid hT
  have D1 := Lib.hid C1; have D2 := Lib.hid C2; have D3 := Lib.hid C3; have D4 := Lib.hid C4; have D5 := Lib.hid C5
  clear hT C1 C2 C3 C4 C5
  go_enter Tryd.func8, Tryd.ntmps8
  go_wp2_with fail
  refine (awake_true w HT.out).mono ?_
  rintro e w1 ⟨rfl, hb⟩
  have HT1 := Lib.hid (HT.out.below hb)
  have HB := Lib.hid hb
  clear hb
  go_wp2_with fail
  refine (D1.out w1 HT1.out).mono ?_
  rintro e w' ⟨rfl, rfl⟩
  go_wp2_with fail
  refine (D2.out w1 HT1.out).mono ?_
  rintro e w2 ⟨rfl, hb2⟩
  have HT2 := Lib.hid (HT1.out.below hb2)
  have HB2 := Lib.hid (HB.out.trans (hb2.mono HB.out.size))
  clear hb2
  go_wp2_with fail
  refine (D3.out w2 HT2.out).mono ?_
  rintro e w' ⟨rfl, rfl⟩
  go_wp2_with fail
  refine (D4.out w2 HT2.out).mono ?_
  rintro e w' ⟨rfl, rfl⟩
  go_wp2_with fail
  refine (D5.out w2 HT2.out).mono ?_
  rintro e w' ⟨rfl, rfl⟩
  go_wp2
  go_ret
  exact ⟨rfl, HB2.out⟩

set_option maxRecDepth 100000 in
set_option maxHeartbeats 2000000 in
theorem back_neg_good (n : Int) (s : ByteArray) (x : Int) (w : World) (hT : Table w) (hs : (s.size : Int) ≤ 40) (h0 : n < 0)
    (C1 : ∀ w, Calls Tryd.prog 13 #[.int .i64 n] w fun e w' => e = .returned (.tuple #[.int .i64 0, .int .i64 0, .int .i64 0, .int .i64 2]) ∧ w = w')
    (C2 : ∀ w, Calls Tryd.prog 23 #[.int .i64 n] w fun e w' => e = .returned (.tuple #[.string { data := #[] }, .int .i64 2]) ∧ w = w')
    (C5 : ∀ w, Table w → Calls Tryd.prog 25 #[.string s] w fun e w' => e = .returned (.tuple #[.int .i64 x, .int .i64 0]) ∧ w = w')
    (C6 : ∀ w, Table w → Calls Tryd.prog 23 #[.int .i64 x] w fun e w' => e = .returned (.tuple #[.string s, .int .i64 0]) ∧ Below w.heap.size w w') :
    Calls Tryd.prog 8 #[.int .i64 n, .string s] w fun e w' => e = .returned (.bool true) ∧ Below w.heap.size w w' := by
  have HT := Lib.hid hT
  have D1 := Lib.hid C1; have D2 := Lib.hid C2; have D5 := Lib.hid C5; have D6 := Lib.hid C6
  clear hT C1 C2 C5 C6
  go_enter Tryd.func8, Tryd.ntmps8
  go_wp2_with fail
  refine (awake_true w HT.out).mono ?_
  rintro e w1 ⟨rfl, hb⟩
  have HT1 := Lib.hid (HT.out.below hb)
  have HB := Lib.hid hb
  clear hb
  go_wp2_with fail
  refine (D1.out w1).mono ?_
  rintro e w' ⟨rfl, rfl⟩
  go_wp2_with fail
  refine (D2.out w1).mono ?_
  rintro e w' ⟨rfl, rfl⟩
  go_wp2_with fail
  refine (D5.out w1 HT1.out).mono ?_
  rintro e w' ⟨rfl, rfl⟩
  go_wp2_with fail
  refine (D6.out w1 HT1.out).mono ?_
  rintro e w3 ⟨rfl, hb3⟩
  have HB3 := Lib.hid (HB.out.trans (hb3.mono HB.out.size))
  clear hb3
  go_wp2
  go_ret
  exact ⟨rfl, HB3.out⟩

set_option maxRecDepth 100000 in
set_option maxHeartbeats 2000000 in
theorem back_neg_2 (n : Int) (s : ByteArray) (w : World) (hT : Table w) (hs : (s.size : Int) ≤ 40) (h0 : n < 0)
    (C1 : ∀ w, Calls Tryd.prog 13 #[.int .i64 n] w fun e w' => e = .returned (.tuple #[.int .i64 0, .int .i64 0, .int .i64 0, .int .i64 2]) ∧ w = w')
    (C2 : ∀ w, Calls Tryd.prog 23 #[.int .i64 n] w fun e w' => e = .returned (.tuple #[.string { data := #[] }, .int .i64 2]) ∧ w = w')
    (C5 : ∀ w, Table w → Calls Tryd.prog 25 #[.string s] w fun e w' => e = .returned (.tuple #[.int .i64 0, .int .i64 2]) ∧ w = w') :
    Calls Tryd.prog 8 #[.int .i64 n, .string s] w fun e w' => e = .returned (.bool true) ∧ Below w.heap.size w w' := by
  have HT := Lib.hid hT
  have D1 := Lib.hid C1; have D2 := Lib.hid C2; have D5 := Lib.hid C5
  clear hT C1 C2 C5
  go_enter Tryd.func8, Tryd.ntmps8
  go_wp2_with fail
  refine (awake_true w HT.out).mono ?_
  rintro e w1 ⟨rfl, hb⟩
  have HT1 := Lib.hid (HT.out.below hb)
  have HB := Lib.hid hb
  clear hb
  go_wp2_with fail
  refine (D1.out w1).mono ?_
  rintro e w' ⟨rfl, rfl⟩
  go_wp2_with fail
  refine (D2.out w1).mono ?_
  rintro e w' ⟨rfl, rfl⟩
  go_wp2_with fail
  refine (D5.out w1 HT1.out).mono ?_
  rintro e w' ⟨rfl, rfl⟩
  go_wp2
  go_ret
  exact ⟨rfl, HB.out⟩

set_option maxRecDepth 100000 in
set_option maxHeartbeats 2000000 in
theorem back_neg_3 (n : Int) (s : ByteArray) (w : World) (hT : Table w) (hs : (s.size : Int) ≤ 40) (h0 : n < 0)
    (C1 : ∀ w, Calls Tryd.prog 13 #[.int .i64 n] w fun e w' => e = .returned (.tuple #[.int .i64 0, .int .i64 0, .int .i64 0, .int .i64 2]) ∧ w = w')
    (C2 : ∀ w, Calls Tryd.prog 23 #[.int .i64 n] w fun e w' => e = .returned (.tuple #[.string { data := #[] }, .int .i64 2]) ∧ w = w')
    (C5 : ∀ w, Table w → Calls Tryd.prog 25 #[.string s] w fun e w' => e = .returned (.tuple #[.int .i64 0, .int .i64 3]) ∧ w = w') :
    Calls Tryd.prog 8 #[.int .i64 n, .string s] w fun e w' => e = .returned (.bool true) ∧ Below w.heap.size w w' := by
  have HT := Lib.hid hT
  have D1 := Lib.hid C1; have D2 := Lib.hid C2; have D5 := Lib.hid C5
  clear hT C1 C2 C5
  go_enter Tryd.func8, Tryd.ntmps8
  go_wp2_with fail
  refine (awake_true w HT.out).mono ?_
  rintro e w1 ⟨rfl, hb⟩
  have HT1 := Lib.hid (HT.out.below hb)
  have HB := Lib.hid hb
  clear hb
  go_wp2_with fail
  refine (D1.out w1).mono ?_
  rintro e w' ⟨rfl, rfl⟩
  go_wp2_with fail
  refine (D2.out w1).mono ?_
  rintro e w' ⟨rfl, rfl⟩
  go_wp2_with fail
  refine (D5.out w1 HT1.out).mono ?_
  rintro e w' ⟨rfl, rfl⟩
  go_wp2
  go_ret
  exact ⟨rfl, HB.out⟩

set_option maxRecDepth 100000 in
set_option maxHeartbeats 2000000 in
theorem back_big_good (n : Int) (s : ByteArray) (x : Int) (w : World) (hT : Table w) (hs : (s.size : Int) ≤ 40) (h0 : 0 ≤ n) (h1 : 1048575 < n)
    (C1 : ∀ w, Calls Tryd.prog 13 #[.int .i64 n] w fun e w' => e = .returned (.tuple #[.int .i64 0, .int .i64 0, .int .i64 0, .int .i64 2]) ∧ w = w')
    (C2 : ∀ w, Calls Tryd.prog 23 #[.int .i64 n] w fun e w' => e = .returned (.tuple #[.string { data := #[] }, .int .i64 2]) ∧ w = w')
    (C5 : ∀ w, Table w → Calls Tryd.prog 25 #[.string s] w fun e w' => e = .returned (.tuple #[.int .i64 x, .int .i64 0]) ∧ w = w')
    (C6 : ∀ w, Table w → Calls Tryd.prog 23 #[.int .i64 x] w fun e w' => e = .returned (.tuple #[.string s, .int .i64 0]) ∧ Below w.heap.size w w') :
    Calls Tryd.prog 8 #[.int .i64 n, .string s] w fun e w' => e = .returned (.bool true) ∧ Below w.heap.size w w' := by
  have HT := Lib.hid hT
  have D1 := Lib.hid C1; have D2 := Lib.hid C2; have D5 := Lib.hid C5; have D6 := Lib.hid C6
  clear hT C1 C2 C5 C6
  go_enter Tryd.func8, Tryd.ntmps8
  go_wp2_with fail
  refine (awake_true w HT.out).mono ?_
  rintro e w1 ⟨rfl, hb⟩
  have HT1 := Lib.hid (HT.out.below hb)
  have HB := Lib.hid hb
  clear hb
  go_wp2_with fail
  refine (D1.out w1).mono ?_
  rintro e w' ⟨rfl, rfl⟩
  go_wp2_with fail
  refine (D2.out w1).mono ?_
  rintro e w' ⟨rfl, rfl⟩
  go_wp2_with fail
  refine (D5.out w1 HT1.out).mono ?_
  rintro e w' ⟨rfl, rfl⟩
  go_wp2_with fail
  refine (D6.out w1 HT1.out).mono ?_
  rintro e w3 ⟨rfl, hb3⟩
  have HB3 := Lib.hid (HB.out.trans (hb3.mono HB.out.size))
  clear hb3
  go_wp2
  go_ret
  exact ⟨rfl, HB3.out⟩

set_option maxRecDepth 100000 in
set_option maxHeartbeats 2000000 in
theorem back_big_2 (n : Int) (s : ByteArray) (w : World) (hT : Table w) (hs : (s.size : Int) ≤ 40) (h0 : 0 ≤ n) (h1 : 1048575 < n)
    (C1 : ∀ w, Calls Tryd.prog 13 #[.int .i64 n] w fun e w' => e = .returned (.tuple #[.int .i64 0, .int .i64 0, .int .i64 0, .int .i64 2]) ∧ w = w')
    (C2 : ∀ w, Calls Tryd.prog 23 #[.int .i64 n] w fun e w' => e = .returned (.tuple #[.string { data := #[] }, .int .i64 2]) ∧ w = w')
    (C5 : ∀ w, Table w → Calls Tryd.prog 25 #[.string s] w fun e w' => e = .returned (.tuple #[.int .i64 0, .int .i64 2]) ∧ w = w') :
    Calls Tryd.prog 8 #[.int .i64 n, .string s] w fun e w' => e = .returned (.bool true) ∧ Below w.heap.size w w' := by
  have HT := Lib.hid hT
  have D1 := Lib.hid C1; have D2 := Lib.hid C2; have D5 := Lib.hid C5
  clear hT C1 C2 C5
  go_enter Tryd.func8, Tryd.ntmps8
  go_wp2_with fail
  refine (awake_true w HT.out).mono ?_
  rintro e w1 ⟨rfl, hb⟩
  have HT1 := Lib.hid (HT.out.below hb)
  have HB := Lib.hid hb
  clear hb
  go_wp2_with fail
  refine (D1.out w1).mono ?_
  rintro e w' ⟨rfl, rfl⟩
  go_wp2_with fail
  refine (D2.out w1).mono ?_
  rintro e w' ⟨rfl, rfl⟩
  go_wp2_with fail
  refine (D5.out w1 HT1.out).mono ?_
  rintro e w' ⟨rfl, rfl⟩
  go_wp2
  go_ret
  exact ⟨rfl, HB.out⟩

set_option maxRecDepth 100000 in
set_option maxHeartbeats 2000000 in
theorem back_big_3 (n : Int) (s : ByteArray) (w : World) (hT : Table w) (hs : (s.size : Int) ≤ 40) (h0 : 0 ≤ n) (h1 : 1048575 < n)
    (C1 : ∀ w, Calls Tryd.prog 13 #[.int .i64 n] w fun e w' => e = .returned (.tuple #[.int .i64 0, .int .i64 0, .int .i64 0, .int .i64 2]) ∧ w = w')
    (C2 : ∀ w, Calls Tryd.prog 23 #[.int .i64 n] w fun e w' => e = .returned (.tuple #[.string { data := #[] }, .int .i64 2]) ∧ w = w')
    (C5 : ∀ w, Table w → Calls Tryd.prog 25 #[.string s] w fun e w' => e = .returned (.tuple #[.int .i64 0, .int .i64 3]) ∧ w = w') :
    Calls Tryd.prog 8 #[.int .i64 n, .string s] w fun e w' => e = .returned (.bool true) ∧ Below w.heap.size w w' := by
  have HT := Lib.hid hT
  have D1 := Lib.hid C1; have D2 := Lib.hid C2; have D5 := Lib.hid C5
  clear hT C1 C2 C5
  go_enter Tryd.func8, Tryd.ntmps8
  go_wp2_with fail
  refine (awake_true w HT.out).mono ?_
  rintro e w1 ⟨rfl, hb⟩
  have HT1 := Lib.hid (HT.out.below hb)
  have HB := Lib.hid hb
  clear hb
  go_wp2_with fail
  refine (D1.out w1).mono ?_
  rintro e w' ⟨rfl, rfl⟩
  go_wp2_with fail
  refine (D2.out w1).mono ?_
  rintro e w' ⟨rfl, rfl⟩
  go_wp2_with fail
  refine (D5.out w1 HT1.out).mono ?_
  rintro e w' ⟨rfl, rfl⟩
  go_wp2
  go_ret
  exact ⟨rfl, HB.out⟩

set_option maxHeartbeats 1000000 in
theorem back_long (n : Int) (s : ByteArray) (w : World) (hT : Table w) (hs : 40 < (s.size : Int)) :
    Calls Tryd.prog 8 #[.int .i64 n, .string s] w fun e w' => e = .returned (.bool true) ∧ Below w.heap.size w w' := by
  have HT := Lib.hid hT
  clear hT
  go_enter Tryd.func8, Tryd.ntmps8
  go_wp2_with fail
  refine (awake_true w HT.out).mono ?_
  rintro e w1 ⟨rfl, hb⟩
  go_wp2
  go_ret
  exact ⟨rfl, hb⟩

/-- A day's date is read back. -/
theorem of_date {n y m d : Int} (h : IsDate n y m d) (hn : n ≤ 1048575) : ofV y m d = n ∧ ofE y m d = 0 := by
  obtain ⟨⟨_, _, _, _, e, f⟩, k⟩ := h
  have := of_yes e f (by omega)
  exact ⟨this.1.trans k, this.2⟩
/-- What is read of a text of the form: an error, or a day whose text it is. -/
theorem read_text (s : ByteArray) : (ofV (p1 s) (p2 s) (p3 s) = 0 ∧ ofE (p1 s) (p2 s) (p3 s) = 2) ∨
    (ofE (p1 s) (p2 s) (p3 s) = 0 ∧ 0 ≤ ofV (p1 s) (p2 s) (p3 s) ∧ ofV (p1 s) (p2 s) (p3 s) ≤ 1048575 ∧ IsDate (ofV (p1 s) (p2 s) (p3 s)) (p1 s) (p2 s) (p3 s)) := by
  by_cases c : 1 ≤ p3 s ∧ p3 s ≤ len (p1 s) (p2 s) ∧ num (p1 s) (p2 s) (p3 s) ≤ 1048575
  · obtain ⟨c1, c2, c3⟩ := c
    obtain ⟨e1, e2⟩ := of_yes c1 c2 c3
    obtain ⟨a, b, d, e⟩ := of_len c1 c2
    have v : Valid (p1 s) (p2 s) (p3 s) := ⟨a, b, d, e, c1, c2⟩
    have := num_bd v
    rw [e1]
    exact Or.inr ⟨e2, by omega, c3, v, rfl⟩
  · exact Or.inl (of_no c)

theorem back_any (n : Int) (s : ByteArray) (w : World) (hT : Table w) :
    Calls Tryd.prog 8 #[.int .i64 n, .string s] w fun e w' => e = .returned (.bool true) ∧ Below w.heap.size w w' := by
  by_cases hs : 40 < (s.size : Int)
  · exact back_long n s w hT hs
  have hs' : (s.size : Int) ≤ 40 := by omega
  have key : (∀ w, Table w → Calls Tryd.prog 25 #[.string s] w fun e w' => e = .returned (.tuple #[.int .i64 0, .int .i64 3]) ∧ w = w') ∨
      (∀ w, Table w → Calls Tryd.prog 25 #[.string s] w fun e w' => e = .returned (.tuple #[.int .i64 0, .int .i64 2]) ∧ w = w') ∨
      (∃ x, (∀ w, Table w → Calls Tryd.prog 25 #[.string s] w fun e w' => e = .returned (.tuple #[.int .i64 x, .int .i64 0]) ∧ w = w') ∧
        (∀ w, Table w → Calls Tryd.prog 23 #[.int .i64 x] w fun e w' => e = .returned (.tuple #[.string s, .int .i64 0]) ∧ Below w.heap.size w w')) := by
    by_cases g : Shape s
    · rcases read_text s with ⟨e1, e2⟩ | ⟨e1, e2, e3, e4⟩
      · refine Or.inr (Or.inl fun w h => ?_)
        have := Parse_good s w h g
        rw [e1, e2] at this
        exact this
      · refine Or.inr (Or.inr ⟨ofV (p1 s) (p2 s) (p3 s), fun w h => ?_, fun w h => ?_⟩)
        · have := Parse_good s w h g
          rw [e1] at this
          exact this
        · have := Format_is _ _ _ _ w h e2 e3 e4
          rw [shape_text g] at this
          exact this
    · exact Or.inl fun w h => Parse_bad s w h g
  by_cases h : n < 0 ∨ 1048575 < n
  · have A := fun w => Date_no n w h
    have B := fun w => Format_no n w h
    by_cases h0 : n < 0
    · rcases key with k | k | ⟨x, k, k'⟩
      · exact back_neg_3 n s w hT hs' h0 A B k
      · exact back_neg_2 n s w hT hs' h0 A B k
      · exact back_neg_good n s x w hT hs' h0 A B k k'
    · rcases key with k | k | ⟨x, k, k'⟩
      · exact back_big_3 n s w hT hs' (by omega) (by omega) A B k
      · exact back_big_2 n s w hT hs' (by omega) (by omega) A B k
      · exact back_big_good n s x w hT hs' (by omega) (by omega) A B k k'
  · obtain ⟨y, m, d, hI⟩ := date_exists n (by omega) (by omega)
    have A := fun w h => Date_is n y m d w h (by omega) (by omega) hI
    have B := fun w h => Format_is n y m d w h (by omega) (by omega) hI
    obtain ⟨o1, o2⟩ := of_date hI (by omega)
    obtain ⟨v1, v2, v3, v4, v5, v6⟩ := valid_bd hI.1
    obtain ⟨t1, t2, t3, t4⟩ := text_shape (y := y) (m := m) (d := d) ⟨v1, v2⟩ ⟨v3, v4⟩ ⟨v5, v6⟩
    have C : ∀ w, Table w → Calls Tryd.prog 11 #[.int .i64 y, .int .i64 m, .int .i64 d] w fun e w' => e = .returned (.tuple #[.int .i64 n, .int .i64 0]) ∧ w = w' := fun w h => by
      have := Of_any y m d w h
      rw [o1, o2] at this
      exact this
    have D : ∀ w, Table w → Calls Tryd.prog 25 #[.string (strOfNums (txt y m d))] w fun e w' => e = .returned (.tuple #[.int .i64 n, .int .i64 0]) ∧ w = w' := fun w h => by
      have := Parse_good _ w h t1
      rw [t2, t3, t4, o1, o2] at this
      exact this
    rcases key with k | k | ⟨x, k, k'⟩
    · exact back_day_3 n s y m d _ w hT hs' (by omega) (by omega) A B C D k
    · exact back_day_2 n s y m d _ w hT hs' (by omega) (by omega) A B C D k
    · exact back_day_good n s y m d _ x w hT hs' (by omega) (by omega) A B C D k k'

set_option maxRecDepth 100000 in
theorem back_lifted (os : Os) (started : os.Started) (H : Type) (enc : TypeId × Value → H) :
    ReturnsInHanded {} Tryd.checked os 8 .any (fun w args => (Rows.dayBackSpec.pre enc Tryd.prog Tryd.f8 [] false w args ∧ laidMetH Tryd.prog laid1 w) ∧ sizedMet enc Tryd.prog Tryd.f8 (OpenSpec.ofChange Rows.dayBackSpec) false w args)
      (Rows.dayBackSpec.post enc Tryd.prog Tryd.f8 false true false false) := by
  refine returnsInHanded_of_change_and (C := Tryd.checked) (X := fun w _ => laidMetH Tryd.prog laid1 w) (fun _ _ _ hh h => h.of_heap hh) own started (by kernel_rfl) Tryd.func8
    (ChangeSpec.witness_shaped (enc := enc) (C := Tryd.checked) (os := os) (X := fun w _ => laidMetH Tryd.prog laid1 w) false (World.doorLaid Tryd.prog 400 os) #[.int .i64 0, .string { data := #[] }] 8 rfl (World.shaped_of_RefB (by kernel_rfl) (by kernel_rfl)) (by kernel_rfl) (by kernel_rfl) (by kernel_rfl) (door_met os _)) ?_
  intro W base args ds gs before hval0 hW _ _ hL _
  have hval : ∀ (j : Nat) t v, Tryd.f8.params[j]? = some t → args[j]? = some v → Value.okWide Tryd.prog W .any base t v := hval0
  have hW' := hW
  obtain ⟨p, q, hA0, hV, rfl, hfz, hnd⟩ := hW
  have hA : DataW.TrodAll enc Tryd.prog W 0 (fun _ => true) true Tryd.f8.params.toList args.toList ds p := hA0
  rw [Tryd.params8] at hA hval
  obtain ⟨v0, v1, d0, d1, p0, p1, rfl, rfl, rfl, h0, h1⟩ := trodAll_two hA
  obtain ⟨rfl, rfl⟩ := trodVars_none hV
  obtain ⟨n, rfl, rfl, rfl, wn⟩ := open_int Tryd.underlying3 (hval 0 3 v0 rfl rfl) h0
  obtain ⟨s, rfl, rfl, rfl, ws⟩ := open_string Tryd.underlying9 (hval 1 9 v1 rfl rfl) h1
  refine (back_any n s W (table_of_laid hL)).mono fun e W' ⟨he, hb⟩ => ?_
  subst he
  exact ⟨_, rfl, post_true rfl rfl (by kernel_rfl) hW' rfl hb⟩

theorem back_said : Rows.DayBackSaid :=
  OpenClaim.holds_of_wide 8 Tryd.f8 rfl rfl rfl rfl rfl rfl rfl ⟨rfl, rfl, rfl, rfl, rfl⟩ rfl rfl rfl rfl rfl (by kernel_rfl) Tryd.func8 (by kernel_rfl)
    (of_decide_eq_true (by kernel_rfl)) (by unfold Func.isWrapper; first | (rw [if_pos (by decide +kernel)]; kernel_rfl) | (rw [if_neg (by decide +kernel)]; exact ⟨rfl, rfl⟩))
    (fun os started H enc _ => back_lifted os started H enc)

theorem back_holds : Rows.DayBackCardSaid :=
  Claim7.holds_tied_plain_at .later [] [.data] true (true, "a8739655e9557d7c018a4fd303c4d1567818996deea4156720fd0d785a0dfc65") false
    back_said (fun _ h => by cases h) (by kernel_rfl) (fun _ h => by cases h) dayBack_row_tie rfl ⟨rfl, rfl⟩ (by kernel_rfl) rfl
    (fun f fn hf hfn => by
      obtain rfl : f = 8 := Option.some.inj ((show Tryd.prog.funcNamed "archivum/archivumlaw02.DayBack" = some 8 by kernel_rfl).symm.trans hf) |>.symm
      obtain rfl : fn = Tryd.f8 := (Option.some.inj (Tryd.func8.symm.trans hfn)).symm
      exact ⟨by kernel_rfl, fun j t ht => by
        rw [Tryd.params8] at ht
        have hm : t ∈ [3, 9] := by simpa using Array.mem_of_getElem? ht
        have hall : ([3, 9].all fun u => !Tryd.prog.wantsStandIn u) = true := by kernel_rfl
        exact (show Tryd.prog.wantsStandIn t = false by simpa using List.all_eq_true.1 hall t hm)⟩)
    (by kernel_rfl)
#print axioms back_holds
end Go.Proofs.YtojmolemhdonfabDoor
