/-
  What Parse and number answer, in the code and in the reference, walked over the program's text. No statement of the seat is proved here.
-/
import Derived.Test.YtjpiaccpcmlfnaaDoorWalks4
namespace Go.Proofs.YtjpiaccpcmlfnaaDoor
open Go.RowKit Cal

/-- All bytes are decimal digits. -/
def okL (l : List UInt8) : Bool := l.all fun c => decide (48 ≤ (c.toNat : Int)) && decide ((c.toNat : Int) ≤ 57)
/-- The number that the digits write. -/
def val (l : List UInt8) : Int := l.foldl (fun n c => 10 * n + ((c.toNat : Int) - 48)) 0
def numV (l : List UInt8) : Int := if okL l = true then val l else 0
theorem val_snoc (l : List UInt8) (c : UInt8) : val (l ++ [c]) = 10 * val l + ((c.toNat : Int) - 48) := by simp [val, List.foldl_append]
theorem okL_snoc (l : List UInt8) (c : UInt8) : okL (l ++ [c]) = true ↔ okL l = true ∧ 48 ≤ (c.toNat : Int) ∧ (c.toNat : Int) ≤ 57 := by
  simp only [okL, List.all_append, List.all_cons, List.all_nil, Bool.and_true, Bool.and_eq_true, decide_eq_true_eq]
theorem okL_mem {l : List UInt8} (h : okL l = true) {c : UInt8} (hc : c ∈ l) : 48 ≤ (c.toNat : Int) ∧ (c.toNat : Int) ≤ 57 := by
  have := List.all_eq_true.1 h c hc
  simpa only [Bool.and_eq_true, decide_eq_true_eq] using this
theorem okL_take {l : List UInt8} (h : okL l = true) (k : Nat) : okL (l.take k) = true :=
  List.all_eq_true.2 fun c hc => List.all_eq_true.1 h c (List.mem_of_mem_take hc)
theorem val_pow : ∀ (n : Nat) (l : List UInt8), l.length = n → okL l = true → 0 ≤ val l ∧ val l + 1 ≤ ((10 ^ n : Nat) : Int) := by
  intro n
  induction n with
  | zero => intro l hl _; obtain rfl := List.length_eq_zero_iff.1 hl; simp [val]
  | succ n ih =>
    intro l hl ho
    obtain ⟨a, c, rfl⟩ : ∃ a c, l = a ++ [c] := ⟨l.dropLast, l.getLast (by intro h; subst h; simp at hl), (List.dropLast_concat_getLast _).symm⟩
    obtain ⟨o1, o2, o3⟩ := (okL_snoc a c).1 ho
    have := ih a (by simpa using hl) o1
    rw [val_snoc, Nat.pow_succ]
    omega
theorem val_bd (l : List UInt8) (hl : l.length ≤ 10) (ho : okL l = true) : 0 ≤ val l ∧ val l ≤ 9999999999 := by
  have h := val_pow _ l rfl ho
  have := Nat.pow_le_pow_right (n := 10) (by omega) hl
  omega
theorem take_snoc (s : ByteArray) (k : Nat) (h : k < s.size) : s.data.toList.take (k + 1) = s.data.toList.take k ++ [s[k]] := by
  rw [List.take_succ_eq_append_getElem (by simpa using h)]; rfl
theorem mem_byte (s : ByteArray) (k : Nat) (h : k < s.size) : s[k] ∈ s.data.toList := by
  show s.data[k] ∈ s.data.toList
  simp
theorem retNB {a b : Int} {c d : Bool} (h : a = b) (h' : c = d) : Ending.returned (.tuple #[.int .i64 a, .bool c]) = .returned (.tuple #[.int .i64 b, .bool d]) := by rw [h, h']

set_option maxHeartbeats 1000000 in
theorem number_any (s : ByteArray) (w : World) (hs : s.size ≤ 10) :
    Calls Tryd.prog 86 #[.string s] w fun e w' => e = .returned (.tuple #[.int .i64 (numV s.data.toList), .bool (okL s.data.toList)]) ∧ w = w' := by
  go_enter Tryd.func86, Tryd.ntmps86
  go_wp2
  go_loop [4, 8] (fun n i => ∃ k : Nat, k ≤ s.size ∧ okL (s.data.toList.take k) = true ∧ i = .int .i64 k ∧ n = .int .i64 (val (s.data.toList.take k))) (fun _ i => s.size - (intOf i).toNat)
  case atStart => exact ⟨0, Nat.zero_le _, rfl, rfl, rfl⟩
  case round =>
    obtain ⟨k, hk, ho, rfl, rfl⟩ := hrel
    have hb := val_bd _ (by simp; omega) ho
    by_cases hlt : k < s.size
    · have hts := take_snoc s k hlt
      have HM := Lib.hid (mem_byte s k hlt)
      by_cases c1 : (s[k].toNat : Int) < 48
      · have H : Hid (okL s.data.toList = false) := by
          show okL s.data.toList = false
          cases e : okL s.data.toList
          · rfl
          · have := okL_mem e HM.out; omega
        clear hts ho
        go_wp2
        go_ret2
        exact ⟨retNB (by rw [numV, H.out]; rfl) H.out.symm, rfl⟩
      by_cases c2 : 57 < (s[k].toNat : Int)
      · have H : Hid (okL s.data.toList = false) := by
          show okL s.data.toList = false
          cases e : okL s.data.toList
          · rfl
          · have := okL_mem e HM.out; omega
        have c1' : 48 ≤ (s[k].toNat : Int) := by omega
        clear hts ho c1
        go_wp2
        go_ret2
        exact ⟨retNB (by rw [numV, H.out]; rfl) H.out.symm, rfl⟩
      have c1' : 48 ≤ (s[k].toNat : Int) := by omega
      have c2' : (s[k].toNat : Int) ≤ 57 := by omega
      have HO : Hid (okL (s.data.toList.take (k + 1)) = true) := by show okL (s.data.toList.take (k + 1)) = true; rw [hts]; exact (okL_snoc _ _).2 ⟨ho, c1', c2'⟩
      have HV : Hid (val (s.data.toList.take (k + 1)) = 10 * val (s.data.toList.take k) + ((s[k].toNat : Int) - 48)) := by show val (s.data.toList.take (k + 1)) = _; rw [hts]; exact val_snoc _ _
      clear hts ho c1 c2
      go_wp2
      go_round
      case rel => exact ⟨k + 1, by omega, HO.out, by go_num, int_eq (by rw [HV.out])⟩
      case measure => simp [intOf]; omega
    · have hk' : k = s.size := by omega
      have ht : s.data.toList.take k = s.data.toList := List.take_of_length_le (by simp; omega)
      rw [ht] at ho
      have HO := Lib.hid ho
      have HT := Lib.hid ht
      clear ho ht hk'
      go_wp2
      go_ret2
      exact ⟨retNB (by rw [numV, HO.out, HT.out]; rfl) HO.out.symm, rfl⟩

set_option maxHeartbeats 1000000 in
theorem refNumber_any (s : ByteArray) (w : World) (hs : s.size ≤ 10) (hp : 0 < s.size) :
    Calls Tryd.prog 66 #[.string s] w fun e w' => e = .returned (.tuple #[.int .i64 (numV s.data.toList), .bool (okL s.data.toList)]) ∧ w = w' := by
  go_enter Tryd.func66, Tryd.ntmps66
  go_wp2
  go_loop [4, 5] (fun n i => ∃ k : Nat, k ≤ s.size ∧ okL (s.data.toList.take k) = true ∧ i = .int .i64 k ∧ n = .int .i64 (val (s.data.toList.take k))) (fun _ i => s.size - (intOf i).toNat)
  case atStart => exact ⟨0, Nat.zero_le _, rfl, rfl, rfl⟩
  case round =>
    obtain ⟨k, hk, ho, rfl, rfl⟩ := hrel
    have hb := val_bd _ (by simp; omega) ho
    by_cases hlt : k < s.size
    · have hts := take_snoc s k hlt
      have HM := Lib.hid (mem_byte s k hlt)
      by_cases c1 : (s[k].toNat : Int) < 48
      · have H : Hid (okL s.data.toList = false) := by
          show okL s.data.toList = false
          cases e : okL s.data.toList
          · rfl
          · have := okL_mem e HM.out; omega
        clear hts ho
        go_wp2
        go_ret2
        exact ⟨retNB (by rw [numV, H.out]; rfl) H.out.symm, rfl⟩
      by_cases c2 : 57 < (s[k].toNat : Int)
      · have H : Hid (okL s.data.toList = false) := by
          show okL s.data.toList = false
          cases e : okL s.data.toList
          · rfl
          · have := okL_mem e HM.out; omega
        have c1' : 48 ≤ (s[k].toNat : Int) := by omega
        clear hts ho c1
        go_wp2
        go_ret2
        exact ⟨retNB (by rw [numV, H.out]; rfl) H.out.symm, rfl⟩
      have c1' : 48 ≤ (s[k].toNat : Int) := by omega
      have c2' : (s[k].toNat : Int) ≤ 57 := by omega
      have HO : Hid (okL (s.data.toList.take (k + 1)) = true) := by show okL (s.data.toList.take (k + 1)) = true; rw [hts]; exact (okL_snoc _ _).2 ⟨ho, c1', c2'⟩
      have HV : Hid (val (s.data.toList.take (k + 1)) = 10 * val (s.data.toList.take k) + ((s[k].toNat : Int) - 48)) := by show val (s.data.toList.take (k + 1)) = _; rw [hts]; exact val_snoc _ _
      clear hts ho c1 c2
      go_wp2
      go_round
      case rel => exact ⟨k + 1, by omega, HO.out, by go_num, int_eq (by rw [HV.out])⟩
      case measure => simp [intOf]; omega
    · have hk' : k = s.size := by omega
      have ht : s.data.toList.take k = s.data.toList := List.take_of_length_le (by simp; omega)
      rw [ht] at ho
      have HO := Lib.hid ho
      have HT := Lib.hid ht
      clear ho ht hk'
      go_wp2
      go_ret2
      exact ⟨retNB (by rw [numV, HO.out, HT.out]; rfl) HO.out.symm, rfl⟩

/-- The form of a day's text: 4, 2 and 2 decimal digits, separated by minus signs. -/
def Shape (s : ByteArray) : Prop := ∃ h : s.size = 10, (s[4].toNat : Int) = 45 ∧ (s[7].toNat : Int) = 45 ∧ okL (s.extract 0 4).data.toList = true ∧ okL (s.extract 5 7).data.toList = true ∧ okL (s.extract 8 s.size).data.toList = true
def p1 (s : ByteArray) : Int := numV (s.extract 0 4).data.toList
def p2 (s : ByteArray) : Int := numV (s.extract 5 7).data.toList
def p3 (s : ByteArray) : Int := numV (s.extract 8 s.size).data.toList

set_option maxHeartbeats 1000000 in
theorem Parse_size (s : ByteArray) (w : World) (h : s.size ≠ 10) :
    Calls Tryd.prog 82 #[.string s] w fun e w' => e = .returned (.tuple #[.int .i64 0, .int .i64 3]) ∧ w = w' := by
  have h1 : ((s.size : Int) != 10) = true := by simp; omega
  clear h
  go_enter Tryd.func82, Tryd.ntmps82
  go_wp2
  go_ret2
  exact ⟨rfl, rfl⟩
set_option maxHeartbeats 1000000 in
theorem Parse_dash (s : ByteArray) (w : World) (h : s.size = 10) (g : ¬ ((s[4].toNat : Int) = 45 ∧ (s[7].toNat : Int) = 45)) :
    Calls Tryd.prog 82 #[.string s] w fun e w' => e = .returned (.tuple #[.int .i64 0, .int .i64 3]) ∧ w = w' := by
  have h1 : ((s.size : Int) != 10) = false := by simp; omega
  have h2 : 4 < s.size := by omega
  have h3 : 7 < s.size := by omega
  by_cases k : (s[4].toNat : Int) = 45
  · have k1 : ((s[4].toNat : Int) != 45) = false := by simp [k]
    have k2 : ((s[7].toNat : Int) != 45) = true := by simp; omega
    clear h k g
    go_enter Tryd.func82, Tryd.ntmps82
    go_wp2
    go_ret2
    exact ⟨rfl, rfl⟩
  · have k1 : ((s[4].toNat : Int) != 45) = true := by simp [k]
    clear h k g
    go_enter Tryd.func82, Tryd.ntmps82
    go_wp2
    go_ret2
    exact ⟨rfl, rfl⟩
set_option maxHeartbeats 1000000 in
theorem Parse_digits (s : ByteArray) (w : World) (hT : Table w) (h : s.size = 10) (g1 : (s[4].toNat : Int) = 45) (g2 : (s[7].toNat : Int) = 45) (y m d : Int) (b1 b2 b3 : Bool)
    (C1 : ∀ w, Calls Tryd.prog 86 #[.string (s.extract 0 4)] w fun e w' => e = .returned (.tuple #[.int .i64 y, .bool b1]) ∧ w = w')
    (C2 : ∀ w, Calls Tryd.prog 86 #[.string (s.extract 5 7)] w fun e w' => e = .returned (.tuple #[.int .i64 m, .bool b2]) ∧ w = w')
    (C3 : ∀ w, Calls Tryd.prog 86 #[.string (s.extract 8 s.size)] w fun e w' => e = .returned (.tuple #[.int .i64 d, .bool b3]) ∧ w = w') :
    Calls Tryd.prog 82 #[.string s] w fun e w' => e = .returned (.tuple #[.int .i64 (if (b1 && b2 && b3) = true then ofV y m d else 0), .int .i64 (if (b1 && b2 && b3) = true then ofE y m d else 3)]) ∧ w = w' := by
  have h1 : ((s.size : Int) != 10) = false := by simp; omega
  have h2 : 4 < s.size := by omega
  have h3 : 7 < s.size := by omega
  have h4 : 8 ≤ s.size := by omega
  have k1 : ((s[4].toNat : Int) != 45) = false := by simp [g1]
  have k2 : ((s[7].toNat : Int) != 45) = false := by simp [g2]
  have D1 := Lib.hid C1; have D2 := Lib.hid C2; have D3 := Lib.hid C3
  have HT := Lib.hid hT
  clear hT
  clear h g1 g2 C1 C2 C3
  cases b1
  · simp only [Bool.false_and, Bool.false_eq_true, if_false]
    go_enter Tryd.func82, Tryd.ntmps82
    go_wp2_with fail
    refine (D1.out w).mono ?_
    rintro e w' ⟨rfl, rfl⟩
    go_wp2_with fail
    refine (D2.out w).mono ?_
    rintro e w' ⟨rfl, rfl⟩
    go_wp2_with fail
    refine (D3.out w).mono ?_
    rintro e w' ⟨rfl, rfl⟩

    go_wp2
    go_ret2
    exact ⟨rfl, rfl⟩
  cases b2
  · simp only [Bool.false_and, Bool.and_false, Bool.false_eq_true, if_false]
    go_enter Tryd.func82, Tryd.ntmps82
    go_wp2_with fail
    refine (D1.out w).mono ?_
    rintro e w' ⟨rfl, rfl⟩
    go_wp2_with fail
    refine (D2.out w).mono ?_
    rintro e w' ⟨rfl, rfl⟩
    go_wp2_with fail
    refine (D3.out w).mono ?_
    rintro e w' ⟨rfl, rfl⟩

    go_wp2
    go_ret2
    exact ⟨rfl, rfl⟩
  cases b3
  · simp only [Bool.and_false, Bool.false_eq_true, if_false]
    go_enter Tryd.func82, Tryd.ntmps82
    go_wp2_with fail
    refine (D1.out w).mono ?_
    rintro e w' ⟨rfl, rfl⟩
    go_wp2_with fail
    refine (D2.out w).mono ?_
    rintro e w' ⟨rfl, rfl⟩
    go_wp2_with fail
    refine (D3.out w).mono ?_
    rintro e w' ⟨rfl, rfl⟩

    go_wp2
    go_ret2
    exact ⟨rfl, rfl⟩
  simp only [Bool.and_self, if_true]
  go_enter Tryd.func82, Tryd.ntmps82
  go_wp2_with fail
  refine (D1.out w).mono ?_
  rintro e w' ⟨rfl, rfl⟩
  go_wp2_with fail
  refine (D2.out w).mono ?_
  rintro e w' ⟨rfl, rfl⟩
  go_wp2_with fail
  refine (D3.out w).mono ?_
  rintro e w' ⟨rfl, rfl⟩
  go_wp2_with fail
  refine (Of_any y m d w HT.out).mono ?_
  rintro e w' ⟨rfl, rfl⟩
  go_wp2
  go_ret2
  exact ⟨rfl, rfl⟩
theorem Parse_good (s : ByteArray) (w : World) (hT : Table w) (h : Shape s) :
    Calls Tryd.prog 82 #[.string s] w fun e w' => e = .returned (.tuple #[.int .i64 (ofV (p1 s) (p2 s) (p3 s)), .int .i64 (ofE (p1 s) (p2 s) (p3 s))]) ∧ w = w' := by
  obtain ⟨h, g1, g2, o1, o2, o3⟩ := h
  have key := Parse_digits s w hT h g1 g2 _ _ _ _ _ _ (fun w => number_any _ w (by simp [ByteArray.size_extract]; omega)) (fun w => number_any _ w (by simp [ByteArray.size_extract]; omega)) (fun w => number_any _ w (by simp [ByteArray.size_extract]; omega))
  rw [o1, o2, o3] at key
  exact key
theorem Parse_bad (s : ByteArray) (w : World) (hT : Table w) (h : ¬ Shape s) :
    Calls Tryd.prog 82 #[.string s] w fun e w' => e = .returned (.tuple #[.int .i64 0, .int .i64 3]) ∧ w = w' := by
  by_cases h0 : s.size = 10
  case neg => exact Parse_size s w h0
  by_cases h1 : (s[4].toNat : Int) = 45 ∧ (s[7].toNat : Int) = 45
  case neg => exact Parse_dash s w h0 h1
  have key := Parse_digits s w hT h0 h1.1 h1.2 _ _ _ _ _ _ (fun w => number_any _ w (by simp [ByteArray.size_extract]; omega)) (fun w => number_any _ w (by simp [ByteArray.size_extract]; omega)) (fun w => number_any _ w (by simp [ByteArray.size_extract]; omega))
  have hn : (okL (s.extract 0 4).data.toList && okL (s.extract 5 7).data.toList && okL (s.extract 8 s.size).data.toList) = false := by
    cases e1 : okL (s.extract 0 4).data.toList
    · rfl
    cases e2 : okL (s.extract 5 7).data.toList
    · rfl
    cases e3 : okL (s.extract 8 s.size).data.toList
    · rfl
    exact absurd ⟨h0, h1.1, h1.2, e1, e2, e3⟩ h
  rw [hn] at key
  exact key

set_option maxHeartbeats 1000000 in
theorem refParse_size (s : ByteArray) (w : World) (h : s.size ≠ 10) :
    Calls Tryd.prog 67 #[.string s] w fun e w' => e = .returned (.tuple #[.int .i64 0, .int .i64 3]) ∧ w = w' := by
  have h1 : ((s.size : Int) != 10) = true := by simp; omega
  clear h
  go_enter Tryd.func67, Tryd.ntmps67
  go_wp2
  go_ret2
  exact ⟨rfl, rfl⟩
set_option maxHeartbeats 1000000 in
theorem refParse_dash (s : ByteArray) (w : World) (h : s.size = 10) (g : ¬ ((s[4].toNat : Int) = 45 ∧ (s[7].toNat : Int) = 45)) :
    Calls Tryd.prog 67 #[.string s] w fun e w' => e = .returned (.tuple #[.int .i64 0, .int .i64 3]) ∧ w = w' := by
  have h1 : ((s.size : Int) != 10) = false := by simp; omega
  have h2 : 4 < s.size := by omega
  have h3 : 7 < s.size := by omega
  by_cases k : (s[4].toNat : Int) = 45
  · have k1 : ((s[4].toNat : Int) != 45) = false := by simp [k]
    have k2 : ((s[7].toNat : Int) != 45) = true := by simp; omega
    clear h k g
    go_enter Tryd.func67, Tryd.ntmps67
    go_wp2
    go_ret2
    exact ⟨rfl, rfl⟩
  · have k1 : ((s[4].toNat : Int) != 45) = true := by simp [k]
    clear h k g
    go_enter Tryd.func67, Tryd.ntmps67
    go_wp2
    go_ret2
    exact ⟨rfl, rfl⟩
set_option maxHeartbeats 1000000 in
theorem refParse_digits (s : ByteArray) (w : World) (h : s.size = 10) (g1 : (s[4].toNat : Int) = 45) (g2 : (s[7].toNat : Int) = 45) (y m d : Int) (b1 b2 b3 : Bool)
    (C1 : ∀ w, Calls Tryd.prog 66 #[.string (s.extract 0 4)] w fun e w' => e = .returned (.tuple #[.int .i64 y, .bool b1]) ∧ w = w')
    (C2 : ∀ w, Calls Tryd.prog 66 #[.string (s.extract 5 7)] w fun e w' => e = .returned (.tuple #[.int .i64 m, .bool b2]) ∧ w = w')
    (C3 : ∀ w, Calls Tryd.prog 66 #[.string (s.extract 8 s.size)] w fun e w' => e = .returned (.tuple #[.int .i64 d, .bool b3]) ∧ w = w') :
    Calls Tryd.prog 67 #[.string s] w fun e w' => e = .returned (.tuple #[.int .i64 (if (b1 && b2 && b3) = true then ofV y m d else 0), .int .i64 (if (b1 && b2 && b3) = true then ofE y m d else 3)]) ∧ w = w' := by
  have h1 : ((s.size : Int) != 10) = false := by simp; omega
  have h2 : 4 < s.size := by omega
  have h3 : 7 < s.size := by omega
  have h4 : 8 ≤ s.size := by omega
  have k1 : ((s[4].toNat : Int) != 45) = false := by simp [g1]
  have k2 : ((s[7].toNat : Int) != 45) = false := by simp [g2]
  have D1 := Lib.hid C1; have D2 := Lib.hid C2; have D3 := Lib.hid C3
  clear h g1 g2 C1 C2 C3
  cases b1
  · simp only [Bool.false_and, Bool.false_eq_true, if_false]
    go_enter Tryd.func67, Tryd.ntmps67
    go_wp2_with fail
    refine (D1.out w).mono ?_
    rintro e w' ⟨rfl, rfl⟩
    go_wp2_with fail
    refine (D2.out w).mono ?_
    rintro e w' ⟨rfl, rfl⟩
    go_wp2_with fail
    refine (D3.out w).mono ?_
    rintro e w' ⟨rfl, rfl⟩

    go_wp2
    go_ret2
    exact ⟨rfl, rfl⟩
  cases b2
  · simp only [Bool.false_and, Bool.and_false, Bool.false_eq_true, if_false]
    go_enter Tryd.func67, Tryd.ntmps67
    go_wp2_with fail
    refine (D1.out w).mono ?_
    rintro e w' ⟨rfl, rfl⟩
    go_wp2_with fail
    refine (D2.out w).mono ?_
    rintro e w' ⟨rfl, rfl⟩
    go_wp2_with fail
    refine (D3.out w).mono ?_
    rintro e w' ⟨rfl, rfl⟩

    go_wp2
    go_ret2
    exact ⟨rfl, rfl⟩
  cases b3
  · simp only [Bool.and_false, Bool.false_eq_true, if_false]
    go_enter Tryd.func67, Tryd.ntmps67
    go_wp2_with fail
    refine (D1.out w).mono ?_
    rintro e w' ⟨rfl, rfl⟩
    go_wp2_with fail
    refine (D2.out w).mono ?_
    rintro e w' ⟨rfl, rfl⟩
    go_wp2_with fail
    refine (D3.out w).mono ?_
    rintro e w' ⟨rfl, rfl⟩

    go_wp2
    go_ret2
    exact ⟨rfl, rfl⟩
  simp only [Bool.and_self, if_true]
  go_enter Tryd.func67, Tryd.ntmps67
  go_wp2_with fail
  refine (D1.out w).mono ?_
  rintro e w' ⟨rfl, rfl⟩
  go_wp2_with fail
  refine (D2.out w).mono ?_
  rintro e w' ⟨rfl, rfl⟩
  go_wp2_with fail
  refine (D3.out w).mono ?_
  rintro e w' ⟨rfl, rfl⟩
  go_wp2_with fail
  refine (refOf_any y m d w ).mono ?_
  rintro e w' ⟨rfl, rfl⟩
  go_wp2
  go_ret2
  exact ⟨rfl, rfl⟩
theorem refParse_good (s : ByteArray) (w : World) (h : Shape s) :
    Calls Tryd.prog 67 #[.string s] w fun e w' => e = .returned (.tuple #[.int .i64 (ofV (p1 s) (p2 s) (p3 s)), .int .i64 (ofE (p1 s) (p2 s) (p3 s))]) ∧ w = w' := by
  obtain ⟨h, g1, g2, o1, o2, o3⟩ := h
  have key := refParse_digits s w h g1 g2 _ _ _ _ _ _ (fun w => refNumber_any _ w (by simp [ByteArray.size_extract]; omega) (by simp [ByteArray.size_extract]; omega)) (fun w => refNumber_any _ w (by simp [ByteArray.size_extract]; omega) (by simp [ByteArray.size_extract]; omega)) (fun w => refNumber_any _ w (by simp [ByteArray.size_extract]; omega) (by simp [ByteArray.size_extract]; omega))
  rw [o1, o2, o3] at key
  exact key
theorem refParse_bad (s : ByteArray) (w : World) (h : ¬ Shape s) :
    Calls Tryd.prog 67 #[.string s] w fun e w' => e = .returned (.tuple #[.int .i64 0, .int .i64 3]) ∧ w = w' := by
  by_cases h0 : s.size = 10
  case neg => exact refParse_size s w h0
  by_cases h1 : (s[4].toNat : Int) = 45 ∧ (s[7].toNat : Int) = 45
  case neg => exact refParse_dash s w h0 h1
  have key := refParse_digits s w h0 h1.1 h1.2 _ _ _ _ _ _ (fun w => refNumber_any _ w (by simp [ByteArray.size_extract]; omega) (by simp [ByteArray.size_extract]; omega)) (fun w => refNumber_any _ w (by simp [ByteArray.size_extract]; omega) (by simp [ByteArray.size_extract]; omega)) (fun w => refNumber_any _ w (by simp [ByteArray.size_extract]; omega) (by simp [ByteArray.size_extract]; omega))
  have hn : (okL (s.extract 0 4).data.toList && okL (s.extract 5 7).data.toList && okL (s.extract 8 s.size).data.toList) = false := by
    cases e1 : okL (s.extract 0 4).data.toList
    · rfl
    cases e2 : okL (s.extract 5 7).data.toList
    · rfl
    cases e3 : okL (s.extract 8 s.size).data.toList
    · rfl
    exact absurd ⟨h0, h1.1, h1.2, e1, e2, e3⟩ h
  rw [hn] at key
  exact key
end Go.Proofs.YtjpiaccpcmlfnaaDoor
