/-
  The periods around a day, in numbers: its year, its month, itself. No statement of the seat is proved here.
-/
import Derived.Test.YtjpiaccpcmlfnaaDoorPer2
import Derived.Lib.Strings
namespace Go.Proofs.YtjpiaccpcmlfnaaDoor
open Go.RowKit Cal
open Classical

theorem rd_txt {y m d : Int} (hy : 0 ≤ y ∧ y ≤ 9999) (hm : 0 ≤ m ∧ m ≤ 99) (hd : 0 ≤ d ∧ d ≤ 99) (h : ofE y m d = 0) :
    rdE (strOfNums (txt y m d)) = 0 ∧ rdF (strOfNums (txt y m d)) = num y m d ∧ rdY (strOfNums (txt y m d)) = lastV y 12 31 ∧ rdM (strOfNums (txt y m d)) = mn (num y m d + len y m - 1) 1048575 := by
  obtain ⟨hs, e1, e2, e3⟩ := text_shape hy hm hd
  have hv : ofV y m d = num y m d := by
    unfold ofE at h
    by_cases k : 1 ≤ d ∧ d ≤ len y m ∧ num y m d ≤ 1048575
    · exact (of_yes k.1 k.2.1 k.2.2).1
    · rw [if_neg k] at h; omega
  have a : rdE (strOfNums (txt y m d)) = 0 := by unfold rdE; rw [if_pos hs, e1, e2, e3, h]
  refine ⟨a, ?_, ?_, ?_⟩
  · unfold rdF; rw [if_pos a, e1, e2, e3, hv]
  · unfold rdY; rw [if_pos a, e1]
  · unfold rdM; rw [if_pos a, e1, e2, e3, hv]

theorem data_append (a b : ByteArray) : (a ++ b).data.toList = a.data.toList ++ b.data.toList := by simp
theorem x4_data : x4.data.toList = ([45, 48, 49, 45, 48, 49] : List Int).map fun b => UInt8.ofNat b.toNat := by decide
theorem x7_data : x7.data.toList = ([45, 48, 49] : List Int).map fun b => UInt8.ofNat b.toNat := by decide
theorem txt_size (y m d : Int) : (strOfNums (txt y m d)).size = 10 := by rw [strOfNums_size]; rfl
theorem txt_4 (y m d : Int) : (strOfNums (txt y m d)).extract 0 4 = strOfNums (d4 y) := by
  apply ByteArray.ext
  apply Array.toList_inj.1
  rw [Lib.extract_data, strOfNums_data, strOfNums_data]
  rfl
theorem txt_7 (y m d : Int) : (strOfNums (txt y m d)).extract 0 7 = strOfNums (d4 y ++ [45] ++ d2 m) := by
  apply ByteArray.ext
  apply Array.toList_inj.1
  rw [Lib.extract_data, strOfNums_data, strOfNums_data]
  rfl
theorem txt_10 (y m d : Int) : (strOfNums (txt y m d)).extract 0 10 = strOfNums (txt y m d) := by
  apply ByteArray.ext
  apply Array.toList_inj.1
  rw [Lib.extract_data, strOfNums_data]
  rfl
theorem d4_x4 (y : Int) : strOfNums (d4 y) ++ x4 = strOfNums (txt y 1 1) := by
  apply ByteArray.ext
  apply Array.toList_inj.1
  rw [data_append, strOfNums_data, strOfNums_data, x4_data, ← List.map_append]
  rfl
theorem d7_x7 (y m : Int) : strOfNums (d4 y ++ [45] ++ d2 m) ++ x7 = strOfNums (txt y m 1) := by
  apply ByteArray.ext
  apply Array.toList_inj.1
  rw [data_append, strOfNums_data, strOfNums_data, x7_data, ← List.map_append]
  rfl
/-- A valid year's first day is there. -/
theorem year_first {n y m d : Int} (h : IsDate n y m d) (hn : n ≤ 1048575) : ofE y 1 1 = 0 ∧ num y 1 1 = ys y ∧ ys y ≤ n := by
  obtain ⟨hv, e⟩ := h
  have a := (num_year hv).1
  obtain ⟨b1, b2, b3, b4, b5, b6⟩ := hv
  have l := len_lo y 1 b1 b2 (by omega) (by omega)
  have q : num y 1 1 = ys y := by unfold num; rw [cum_one]; omega
  refine ⟨?_, q, by omega⟩
  exact (of_yes (y := y) (m := 1) (d := 1) (by omega) (by omega) (by omega)).2
theorem month_first {n y m d : Int} (h : IsDate n y m d) (hn : n ≤ 1048575) : ofE y m 1 = 0 ∧ num y m 1 = n - d + 1 ∧ 1 ≤ d ∧ d ≤ len y m := by
  obtain ⟨hv, e⟩ := h
  obtain ⟨b1, b2, b3, b4, b5, b6⟩ := hv
  have l := len_lo y m b1 b2 (by omega) (by omega)
  have q : num y m 1 = n - d + 1 := by unfold num at e ⊢; omega
  exact ⟨(of_yes (y := y) (m := m) (d := 1) (by omega) (by omega) (by omega)).2, q, b5, b6⟩

theorem per_year {n y m d : Int} (h : IsDate n y m d) (hn : n ≤ 1048575) :
    perE ((strOfNums (txt y m d)).extract 0 4) = 0 ∧ perF ((strOfNums (txt y m d)).extract 0 4) = ys y ∧ perL ((strOfNums (txt y m d)).extract 0 4) = lastV y 12 31 := by
  obtain ⟨e, q, _⟩ := year_first h hn
  obtain ⟨y1, y2, m1, m2, d1, d2'⟩ := valid_bd h.1
  have hz : (strOfNums (d4 y)).size = 4 := size_d4 y
  obtain ⟨r1, r2, r3, r4⟩ := rd_txt (y := y) (m := 1) (d := 1) ⟨y1, y2⟩ (by omega) (by omega) e
  rw [txt_4]
  unfold perE perF perL
  rw [if_pos hz, if_pos hz, if_pos hz, d4_x4]
  exact ⟨r1, r2.trans q, r3⟩
theorem per_month {n y m d : Int} (h : IsDate n y m d) (hn : n ≤ 1048575) :
    perE ((strOfNums (txt y m d)).extract 0 7) = 0 ∧ perF ((strOfNums (txt y m d)).extract 0 7) = n - d + 1 ∧ perL ((strOfNums (txt y m d)).extract 0 7) = mn (n - d + len y m) 1048575 := by
  obtain ⟨e, q, _⟩ := month_first h hn
  obtain ⟨y1, y2, m1, m2, d1, d2'⟩ := valid_bd h.1
  have hz : (strOfNums (d4 y ++ [45] ++ d2 m)).size = 7 := by rw [strOfNums_size]; rfl
  obtain ⟨r1, r2, r3, r4⟩ := rd_txt (y := y) (m := m) (d := 1) ⟨y1, y2⟩ ⟨m1, m2⟩ (by omega) e
  rw [txt_7]
  have h4 : ¬ (strOfNums (d4 y ++ [45] ++ d2 m)).size = 4 := by omega
  unfold perE perF perL
  rw [if_neg h4, if_neg h4, if_neg h4, if_pos hz, if_pos hz, if_pos hz, d7_x7]
  refine ⟨r1, r2.trans q, ?_⟩
  rw [r4, q]
  congr 1
  omega
theorem per_day {n y m d : Int} (h : IsDate n y m d) (hn : n ≤ 1048575) :
    perE ((strOfNums (txt y m d)).extract 0 10) = 0 ∧ perF ((strOfNums (txt y m d)).extract 0 10) = n ∧ perL ((strOfNums (txt y m d)).extract 0 10) = n := by
  obtain ⟨y1, y2, m1, m2, d1, d2'⟩ := valid_bd h.1
  obtain ⟨hv, e⟩ := h
  have hz := txt_size y m d
  have oe : ofE y m d = 0 := (of_yes hv.2.2.2.2.1 hv.2.2.2.2.2 (by omega)).2
  obtain ⟨r1, r2, r3, r4⟩ := rd_txt (y := y) (m := m) (d := d) ⟨y1, y2⟩ ⟨m1, m2⟩ ⟨d1, d2'⟩ oe
  rw [txt_10]
  have h4 : ¬ (strOfNums (txt y m d)).size = 4 := by omega
  have h7 : ¬ (strOfNums (txt y m d)).size = 7 := by omega
  unfold perE perF perL
  rw [if_neg h4, if_neg h4, if_neg h7, if_neg h7, if_pos hz, if_pos hz]
  exact ⟨r1, r2.trans e, r2.trans e⟩
end Go.Proofs.YtjpiaccpcmlfnaaDoor
