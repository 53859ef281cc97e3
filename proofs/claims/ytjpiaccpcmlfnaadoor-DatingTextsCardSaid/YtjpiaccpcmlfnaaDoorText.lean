/-
  The text of a date has the form that Parse reads, and reading it gives the date back; and a text of that form is the text of what is read from it. No statement of the seat is proved here.
-/
import Derived.Test.YtjpiaccpcmlfnaaDoorParse
import Derived.Lib.Strings
namespace Go.Proofs.YtjpiaccpcmlfnaaDoor
open Go.RowKit Cal

theorem list10 {α : Type} (l : List α) (h : l.length = 10) : ∃ a b c d e f g i j k, l = [a, b, c, d, e, f, g, i, j, k] := by
  match l, h with
  | [a, b, c, d, e, f, g, i, j, k], _ => exact ⟨a, b, c, d, e, f, g, i, j, k, rfl⟩
/-- A digit's byte. -/
theorem dig_byte (x : Int) (h0 : 0 ≤ x) (h1 : x ≤ 9) : ((UInt8.ofNat (48 + x).toNat).toNat : Int) = 48 + x := by
  rw [UInt8.toNat_ofNat']
  omega
theorem byte_back (c : UInt8) : UInt8.ofNat ((c.toNat : Int)).toNat = c := by simp
theorem ok_iff (c : UInt8) (l : List UInt8) : okL (c :: l) = true ↔ (48 ≤ (c.toNat : Int) ∧ (c.toNat : Int) ≤ 57) ∧ okL l = true := by
  simp only [okL, List.all_cons, Bool.and_eq_true, decide_eq_true_eq]
theorem ok_nil : okL [] = true := rfl
theorem val2 (a b : UInt8) : val [a, b] = 10 * ((a.toNat : Int) - 48) + ((b.toNat : Int) - 48) := by simp [val]
theorem val4 (a b c d : UInt8) : val [a, b, c, d] = 1000 * ((a.toNat : Int) - 48) + 100 * ((b.toNat : Int) - 48) + 10 * ((c.toNat : Int) - 48) + ((d.toNat : Int) - 48) := by
  simp [val]; omega
theorem numV_ok {l : List UInt8} (h : okL l = true) : numV l = val l := if_pos h

/-- A text of ten bytes, taken apart. -/
theorem parts {s : ByteArray} {a b c d e f g i j k : UInt8} (hl : s.data.toList = [a, b, c, d, e, f, g, i, j, k]) :
    s.size = 10 ∧ (s.extract 0 4).data.toList = [a, b, c, d] ∧ (s.extract 5 7).data.toList = [f, g] ∧ (s.extract 8 s.size).data.toList = [j, k] := by
  have hs : s.size = 10 := by
    have := congrArg List.length hl
    simpa using this
  refine ⟨hs, ?_, ?_, ?_⟩
  · rw [Lib.extract_data, hl]; rfl
  · rw [Lib.extract_data, hl]; rfl
  · rw [Lib.extract_data, hl, hs]; rfl
theorem byte4 {s : ByteArray} {a b c d e f g i j k : UInt8} (hl : s.data.toList = [a, b, c, d, e, f, g, i, j, k]) (h : 4 < s.size) : s[4] = e := by
  have h' : s.data.toList[4]? = some e := by rw [hl]; rfl
  rw [Array.getElem?_toList] at h'
  exact (Array.getElem?_eq_some_iff.1 h').2
theorem byte7 {s : ByteArray} {a b c d e f g i j k : UInt8} (hl : s.data.toList = [a, b, c, d, e, f, g, i, j, k]) (h : 7 < s.size) : s[7] = i := by
  have h' : s.data.toList[7]? = some i := by rw [hl]; rfl
  rw [Array.getElem?_toList] at h'
  exact (Array.getElem?_eq_some_iff.1 h').2

/-- A text of the form is the text of what is read from it. -/
theorem shape_text {s : ByteArray} (h : Shape s) : strOfNums (txt (p1 s) (p2 s) (p3 s)) = s := by
  obtain ⟨hs, g1, g2, o1, o2, o3⟩ := h
  obtain ⟨a, b, c, d, e, f, g, i, j, k, hl⟩ := list10 s.data.toList (by simpa using hs)
  obtain ⟨_, e1, e2, e3⟩ := parts hl
  rw [byte4 hl] at g1
  rw [byte7 hl] at g2
  rw [e1] at o1; rw [e2] at o2; rw [e3] at o3
  have q1 : p1 s = val [a, b, c, d] := by unfold p1; rw [e1]; exact numV_ok o1
  have q2 : p2 s = val [f, g] := by unfold p2; rw [e2]; exact numV_ok o2
  have q3 : p3 s = val [j, k] := by unfold p3; rw [e3]; exact numV_ok o3
  simp only [ok_iff, ok_nil, and_true] at o1 o2 o3
  rw [val4] at q1; rw [val2] at q2 q3
  have t : txt (p1 s) (p2 s) (p3 s) = [(a.toNat : Int), b.toNat, c.toNat, d.toNat, e.toNat, f.toNat, g.toNat, i.toNat, j.toNat, k.toNat] := by
    unfold txt d4 d2
    simp only [List.cons_append, List.nil_append, List.cons.injEq, and_true]
    refine ⟨?_, ?_, ?_, ?_, ?_, ?_, ?_, ?_, ?_, ?_⟩ <;> omega
  apply ByteArray.ext
  apply Array.toList_inj.1
  rw [strOfNums_data, t, hl]
  simp

/-- The text of a date has the form, and gives the date back. -/
theorem text_shape {y m d : Int} (hy : 0 ≤ y ∧ y ≤ 9999) (hm : 0 ≤ m ∧ m ≤ 99) (hd : 0 ≤ d ∧ d ≤ 99) :
    Shape (strOfNums (txt y m d)) ∧ p1 (strOfNums (txt y m d)) = y ∧ p2 (strOfNums (txt y m d)) = m ∧ p3 (strOfNums (txt y m d)) = d := by
  have hl : (strOfNums (txt y m d)).data.toList = [UInt8.ofNat (48 + y / 10 / 10 / 10 % 10).toNat, UInt8.ofNat (48 + y / 10 / 10 % 10).toNat, UInt8.ofNat (48 + y / 10 % 10).toNat, UInt8.ofNat (48 + y % 10).toNat, UInt8.ofNat (45 : Int).toNat,
      UInt8.ofNat (48 + m / 10 % 10).toNat, UInt8.ofNat (48 + m % 10).toNat, UInt8.ofNat (45 : Int).toNat, UInt8.ofNat (48 + d / 10 % 10).toNat, UInt8.ofNat (48 + d % 10).toNat] := by
    rw [strOfNums_data]; rfl
  have b1 := dig_byte (y / 10 / 10 / 10 % 10) (by omega) (by omega)
  have b2 := dig_byte (y / 10 / 10 % 10) (by omega) (by omega)
  have b3 := dig_byte (y / 10 % 10) (by omega) (by omega)
  have b4 := dig_byte (y % 10) (by omega) (by omega)
  have b5 := dig_byte (m / 10 % 10) (by omega) (by omega)
  have b6 := dig_byte (m % 10) (by omega) (by omega)
  have b7 := dig_byte (d / 10 % 10) (by omega) (by omega)
  have b8 := dig_byte (d % 10) (by omega) (by omega)
  generalize UInt8.ofNat (48 + y / 10 / 10 / 10 % 10).toNat = c1 at *
  generalize UInt8.ofNat (48 + y / 10 / 10 % 10).toNat = c2 at *
  generalize UInt8.ofNat (48 + y / 10 % 10).toNat = c3 at *
  generalize UInt8.ofNat (48 + y % 10).toNat = c4 at *
  generalize UInt8.ofNat (48 + m / 10 % 10).toNat = c5 at *
  generalize UInt8.ofNat (48 + m % 10).toNat = c6 at *
  generalize UInt8.ofNat (48 + d / 10 % 10).toNat = c7 at *
  generalize UInt8.ofNat (48 + d % 10).toNat = c8 at *
  obtain ⟨hs, e1, e2, e3⟩ := parts hl
  have o1 : okL [c1, c2, c3, c4] = true := by simp only [ok_iff, ok_nil, and_true]; omega
  have o2 : okL [c5, c6] = true := by simp only [ok_iff, ok_nil, and_true]; omega
  have o3 : okL [c7, c8] = true := by simp only [ok_iff, ok_nil, and_true]; omega
  refine ⟨⟨hs, by rw [byte4 hl]; rfl, by rw [byte7 hl]; rfl, by rw [e1]; exact o1, by rw [e2]; exact o2, by rw [e3]; exact o3⟩, ?_, ?_, ?_⟩
  · unfold p1; rw [e1, numV_ok o1, val4]; omega
  · unfold p2; rw [e2, numV_ok o2, val2]; omega
  · unfold p3; rw [e3, numV_ok o3, val2]; omega
end Go.Proofs.YtjpiaccpcmlfnaaDoor
