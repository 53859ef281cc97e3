/-
  What Format, Parse and their helpers answer, in the code and in the reference, walked over the program's text. No statement of the seat is proved here.
-/
import Derived.Test.YtjpiaccpcmlfnaaDoorWalks3
import Derived.Handy
namespace Go.Proofs.YtjpiaccpcmlfnaaDoor
open Go.RowKit Cal
/-- The text of a date, as numbers of bytes. -/
def d2 (n : Int) : List Int := [48 + n / 10 % 10, 48 + n % 10]
def d4 (n : Int) : List Int := [48 + n / 10 / 10 / 10 % 10, 48 + n / 10 / 10 % 10, 48 + n / 10 % 10, 48 + n % 10]
theorem cv2 (w : World) (a b : Int) : (convert 85 9 (.slice (some ⟨w.heap.size, 0, none⟩) 2 2)).run Tryd.prog (w.alloc (.cells #[.int .u8 a, .int .u8 b] 5)) = .ok (.string (strOfNums [a, b])) (w.alloc (.cells #[.int .u8 a, .int .u8 b] 5)) :=
  run_convert_bytes_arg (P := Tryd.prog) _ 85 5 Tryd.underlying85 Tryd.underlying5 w.heap.size 0 2 2 [a, b] rfl (fun i hi => by
    rw [Nat.zero_add, World.cell?_alloc_mark]
    match i, hi with
    | 0, _ => rfl
    | 1, _ => rfl) 9 Tryd.underlying9
theorem cv4 (w : World) (a b c d : Int) : (convert 85 9 (.slice (some ⟨w.heap.size, 0, none⟩) 4 4)).run Tryd.prog (w.alloc (.cells #[.int .u8 a, .int .u8 b, .int .u8 c, .int .u8 d] 5)) = .ok (.string (strOfNums [a, b, c, d])) (w.alloc (.cells #[.int .u8 a, .int .u8 b, .int .u8 c, .int .u8 d] 5)) :=
  run_convert_bytes_arg (P := Tryd.prog) _ 85 5 Tryd.underlying85 Tryd.underlying5 w.heap.size 0 4 4 [a, b, c, d] rfl (fun i hi => by
    rw [Nat.zero_add, World.cell?_alloc_mark]
    match i, hi with
    | 0, _ => rfl
    | 1, _ => rfl
    | 2, _ => rfl
    | 3, _ => rfl) 9 Tryd.underlying9
set_option maxHeartbeats 1000000 in
theorem digits2 (n : Int) (w : World) (h0 : 0 ≤ n) (h1 : n ≤ 99) :
    Calls Tryd.prog 81 #[.int .i64 n, .int .i64 2] w fun e w' => e = .returned (.string (strOfNums (d2 n))) ∧ Below w.heap.size w w' := by
  have hmk : ∀ w, (Instr.makeSlice 85 (.int .i64 2) (.int .i64 2)).run Tryd.prog w = .ok (.slice (some ⟨w.heap.size, 0, none⟩) 2 2) (w.alloc (.cells #[.int .u8 0, .int .u8 0] 5)) := fun _ => by kernel_rfl
  have hcv := cv2 w
  go_enter Tryd.func81, Tryd.ntmps81
  go_wp2
  go_rounds 3
  go_ret
  exact ⟨rfl, (Below.refl _ _).alloc (Nat.le_refl _) _⟩
set_option maxHeartbeats 2000000 in
theorem digits4 (n : Int) (w : World) (h0 : 0 ≤ n) (h1 : n ≤ 9999) :
    Calls Tryd.prog 81 #[.int .i64 n, .int .i64 4] w fun e w' => e = .returned (.string (strOfNums (d4 n))) ∧ Below w.heap.size w w' := by
  have hmk : ∀ w, (Instr.makeSlice 85 (.int .i64 4) (.int .i64 4)).run Tryd.prog w = .ok (.slice (some ⟨w.heap.size, 0, none⟩) 4 4) (w.alloc (.cells #[.int .u8 0, .int .u8 0, .int .u8 0, .int .u8 0] 5)) := fun _ => by kernel_rfl
  have hcv := cv4 w
  go_enter Tryd.func81, Tryd.ntmps81
  go_wp2
  go_rounds 5
  go_ret
  exact ⟨rfl, (Below.refl _ _).alloc (Nat.le_refl _) _⟩

def ten : ByteArray := { data := #[48, 49, 50, 51, 52, 53, 54, 55, 56, 57] }
theorem sl10 (d : Int) (h0 : 0 ≤ d) (h1 : d ≤ 9) (w : World) : (Instr.slice 9 (.string ten) (some (.int .i64 d)) (some (.int .i64 (d + 1))) none).run Tryd.prog w = .ok (.string (strOfNums [48 + d])) w := by
  have : d = 0 ∨ d = 1 ∨ d = 2 ∨ d = 3 ∨ d = 4 ∨ d = 5 ∨ d = 6 ∨ d = 7 ∨ d = 8 ∨ d = 9 := by omega
  rcases this with h | h | h | h | h | h | h | h | h | h <;> subst h <;> (show Sem.run _ _ _ = _) <;> kernel_rfl
theorem str_app (a b : List Int) : strOfNums a ++ strOfNums b = strOfNums (a ++ b) := by
  apply ByteArray.ext
  apply Array.toList_inj.1
  simp [strOfNums]
theorem str_nil (s : ByteArray) : s ++ { data := #[] } = s := by
  apply ByteArray.ext
  simp
theorem dash : ({ data := #[45] } : ByteArray) = strOfNums [45] := by decide
theorem ret_str {a b : ByteArray} (h : a = b) : Ending.returned (.string a) = .returned (.string b) := by rw [h]
theorem ret_str2 {a b : ByteArray} {n : Int} (h : a = b) : Ending.returned (.tuple #[.string a, .int .i64 n]) = .returned (.tuple #[.string b, .int .i64 n]) := by rw [h]
set_option maxHeartbeats 1000000 in
theorem Digits2 (n : Int) (w : World) (h0 : 0 ≤ n) (h1 : n ≤ 99) :
    Calls Tryd.prog 56 #[.int .i64 n, .int .i64 2] w fun e w' => e = .returned (.string (strOfNums (d2 n))) ∧ w = w' := by
  have hs0 := sl10 (n % 10) (by omega) (by omega)
  have hs1 := sl10 (n / 10 % 10) (by omega) (by omega)
  unfold ten at hs0 hs1
  go_enter Tryd.func56, Tryd.ntmps56
  go_wp2
  go_rounds 3
  go_ret
  exact ⟨ret_str (by simp [str_app, str_nil, d2]), rfl⟩
set_option maxHeartbeats 1000000 in
theorem Digits4 (n : Int) (w : World) (h0 : 0 ≤ n) (h1 : n ≤ 9999) :
    Calls Tryd.prog 56 #[.int .i64 n, .int .i64 4] w fun e w' => e = .returned (.string (strOfNums (d4 n))) ∧ w = w' := by
  have hs0 := sl10 (n % 10) (by omega) (by omega)
  have hs1 := sl10 (n / 10 % 10) (by omega) (by omega)
  have hs2 := sl10 (n / 10 / 10 % 10) (by omega) (by omega)
  have hs3 := sl10 (n / 10 / 10 / 10 % 10) (by omega) (by omega)
  unfold ten at hs0 hs1 hs2 hs3
  go_enter Tryd.func56, Tryd.ntmps56
  go_wp2
  go_rounds 5
  go_ret
  exact ⟨ret_str (by simp [str_app, str_nil, d4]), rfl⟩

def txt (y m d : Int) : List Int := d4 y ++ [45] ++ d2 m ++ [45] ++ d2 d
theorem valid_bd {y m d : Int} (h : Valid y m d) : 0 ≤ y ∧ y ≤ 9999 ∧ 0 ≤ m ∧ m ≤ 99 ∧ 0 ≤ d ∧ d ≤ 99 := by
  obtain ⟨a, b, c, e, f, g⟩ := h
  have := (len_bd y m).2
  omega
theorem size_d2 (n : Int) : (strOfNums (d2 n)).size = 2 := by rw [strOfNums_size]; rfl
theorem size_d4 (n : Int) : (strOfNums (d4 n)).size = 4 := by rw [strOfNums_size]; rfl
theorem txt_eq (y m d : Int) : strOfNums (d4 y) ++ { data := #[45] } ++ strOfNums (d2 m) ++ { data := #[45] } ++ strOfNums (d2 d) = strOfNums (txt y m d) := by
  rw [dash]; simp [str_app, txt]


set_option maxHeartbeats 1000000 in
theorem Format_is (n y m d : Int) (w : World) (hT : Table w) (h1 : 0 ≤ n) (h2 : n ≤ 1048575) (h : IsDate n y m d) :
    Calls Tryd.prog 72 #[.int .i64 n] w fun e w' => e = .returned (.tuple #[.string (strOfNums (txt y m d)), .int .i64 0]) ∧ Below w.heap.size w w' := by
  have HT := Lib.hid hT
  have HI := Lib.hid h
  obtain ⟨y1, y2, m1, m2, d1, d2'⟩ := valid_bd h.1
  have z1 := size_d4 y; have z2 := size_d2 m; have z3 := size_d2 d
  clear hT h
  go_enter Tryd.func72, Tryd.ntmps72
  go_wp2_with (go_at_call 47; refine (Date_is _ _ _ _ _ HT.out (by omega) (by omega) HI.out).mono ?_; rintro e w' ⟨rfl, rfl⟩)
  refine (digits4 y w (by omega) (by omega)).mono ?_
  rintro e wa ⟨rfl, hb1⟩
  go_wp2_with fail
  refine (digits2 m wa (by omega) (by omega)).mono ?_
  rintro e wb ⟨rfl, hb2⟩
  go_wp2_with fail
  refine (digits2 d wb (by omega) (by omega)).mono ?_
  rintro e wc ⟨rfl, hb3⟩
  go_wp2
  go_ret2
  exact ⟨ret_str2 (txt_eq y m d), hb1.trans ((hb2.trans (hb3.mono hb2.size)).mono hb1.size)⟩

set_option maxHeartbeats 400000 in
theorem Format_no (n : Int) (w : World) (h : n < 0 ∨ 1048575 < n) :
    Calls Tryd.prog 72 #[.int .i64 n] w fun e w' => e = .returned (.tuple #[.string { data := #[] }, .int .i64 2]) ∧ w = w' := by
  have C := Lib.hid h
  clear h
  go_enter Tryd.func72, Tryd.ntmps72
  go_wp2_with (go_at_call 47; refine (Date_no _ _ C.out).mono ?_; rintro e w' ⟨rfl, rfl⟩)
  go_ret2
  exact ⟨rfl, rfl⟩

set_option maxHeartbeats 1000000 in
theorem refFormat_is (n y m d : Int) (w : World) (h1 : 0 ≤ n) (h2 : n ≤ 1048575) (h : IsDate n y m d) :
    Calls Tryd.prog 37 #[.int .i64 n] w fun e w' => e = .returned (.tuple #[.string (strOfNums (txt y m d)), .int .i64 0]) ∧ w = w' := by
  have HI := Lib.hid h
  obtain ⟨y1, y2, m1, m2, d1, d2'⟩ := valid_bd h.1
  have z1 := size_d4 y; have z2 := size_d2 m; have z3 := size_d2 d
  clear h
  go_enter Tryd.func37, Tryd.ntmps37
  go_wp2_with (go_at_call 38; refine (refDate_is _ _ _ _ _ (by omega) (by omega) HI.out).mono ?_; rintro e w' ⟨rfl, rfl⟩)
  refine (Digits4 y w (by omega) (by omega)).mono ?_
  rintro e w' ⟨rfl, rfl⟩
  go_wp2_with fail
  refine (Digits2 m w (by omega) (by omega)).mono ?_
  rintro e w' ⟨rfl, rfl⟩
  go_wp2_with fail
  refine (Digits2 d w (by omega) (by omega)).mono ?_
  rintro e w' ⟨rfl, rfl⟩
  go_wp2
  go_ret2
  exact ⟨ret_str2 (txt_eq y m d), rfl⟩

set_option maxHeartbeats 400000 in
theorem refFormat_no (n : Int) (w : World) (h : n < 0 ∨ 1048575 < n) :
    Calls Tryd.prog 37 #[.int .i64 n] w fun e w' => e = .returned (.tuple #[.string { data := #[] }, .int .i64 2]) ∧ w = w' := by
  have C := Lib.hid h
  clear h
  go_enter Tryd.func37, Tryd.ntmps37
  go_wp2_with (go_at_call 38; refine (refDate_no _ _ C.out).mono ?_; rintro e w' ⟨rfl, rfl⟩)
  go_ret2
  exact ⟨rfl, rfl⟩
end Go.Proofs.YtjpiaccpcmlfnaaDoor
