/-
  The text of a digest is read back, and a text that is read is that of the digest. No statement of the seat is proved here.
-/
import Derived.Test.YtojmolemhdonfaaDoorParse
namespace Go.Proofs.YtojmolemhdonfaaDoor
open Go.RowKit Kec

theorem hv_hexc {n : Nat} (h : n < 16) : hv (hexc n) = n := by unfold hv hexc; split <;> (try split) <;> (try split) <;> omega
theorem hok_hexc {n : Nat} (h : n < 16) : hok (hexc n) = true := by unfold hok hexc; apply decide_eq_true; split <;> omega
theorem hexc_hv {c : Nat} (h : hok c = true) : hexc (hv c) = c := by
  have h := of_decide_eq_true h
  rcases h with h | h
  · have e : hv c = c - 48 := if_pos h
    rw [e]; unfold hexc; split <;> omega
  · have e : hv c = c - 87 := by unfold hv; rw [if_neg (by omega), if_pos h]
    rw [e]; unfold hexc; split <;> omega
theorem hexc_lt {n : Nat} (h : n < 16) : hexc n < 256 := by unfold hexc; split <;> omega
theorem hexB_lt (s : ByteArray) (j : Nat) : hexB s j < 256 := by
  unfold hexB
  have := (s.data.toList.getD (j / 2) 0).toNat_lt
  apply hexc_lt
  split <;> omega
theorem parB_lt (s : ByteArray) (i : Nat) : parB s i < 256 := by
  unfold parB tv
  have a := hv_lt (s.data.toList.getD (2 * i) 0).toNat
  have b := hv_lt (s.data.toList.getD (2 * i + 1) 0).toNat
  omega
theorem nums_size (n : Nat) (h : Nat → Nat) : (strOfNums ((List.range n).map fun i => (h i : Int))).size = n := by rw [strOfNums_size]; simp
theorem nums_byte {n i : Nat} (h : Nat → Nat) (hi : i < n) (hh : h i < 256) : ((strOfNums ((List.range n).map fun i => (h i : Int))).data.toList.getD i 0).toNat = h i := by
  rw [strOfNums_data]
  simp [List.getD, hi]
  omega
theorem hexS_size (s : ByteArray) : (hexS s).size = 64 := nums_size 64 _
theorem parS_size (s : ByteArray) : (parS s).size = 32 := nums_size 32 _
theorem bytes_ext {s t : ByteArray} (hs : s.size = t.size) (h : ∀ i, i < s.size → (s.data.toList.getD i 0).toNat = (t.data.toList.getD i 0).toNat) : s = t := by
  apply ByteArray.ext
  apply Array.toList_inj.1
  have l1 : s.data.toList.length = s.size := by simp
  have l2 : t.data.toList.length = t.size := by simp
  apply List.ext_getElem (by omega)
  intro i h1 h2
  have := h i (by omega)
  rw [List.getD_eq_getElem?_getD, List.getD_eq_getElem?_getD, List.getElem?_eq_getElem h1, List.getElem?_eq_getElem h2] at this
  exact UInt8.toNat_inj.1 this

/-- The text of a digest consists of digits, and is read back. -/
theorem hex_ok (s : ByteArray) : okTo (hexS s) 64 := by
  intro j hj
  unfold tok
  have e : ((hexS s).data.toList.getD j 0).toNat = hexB s j := nums_byte _ hj (hexB_lt s j)
  rw [e]
  unfold hexB
  have := (s.data.toList.getD (j / 2) 0).toNat_lt
  apply hok_hexc
  split <;> omega
theorem par_hex {s : ByteArray} (h : s.size = 32) : parS (hexS s) = s := by
  apply bytes_ext (by rw [parS_size, h])
  intro i hi
  rw [parS_size] at hi
  have e : ((parS (hexS s)).data.toList.getD i 0).toNat = parB (hexS s) i := nums_byte _ hi (parB_lt _ i)
  rw [e]
  have e1 : ((hexS s).data.toList.getD (2 * i) 0).toNat = hexB s (2 * i) := nums_byte _ (by omega) (hexB_lt s _)
  have e2 : ((hexS s).data.toList.getD (2 * i + 1) 0).toNat = hexB s (2 * i + 1) := nums_byte _ (by omega) (hexB_lt s _)
  have hb := (s.data.toList.getD i 0).toNat_lt
  unfold parB tv
  rw [e1, e2]
  unfold hexB
  rw [if_pos (by omega), if_neg (by omega), show 2 * i / 2 = i from by omega, show (2 * i + 1) / 2 = i from by omega, hv_hexc (by omega), hv_hexc (by omega)]
  omega
theorem hex_par {s : ByteArray} (h : s.size = 64) (ho : okTo s 64) : hexS (parS s) = s := by
  apply bytes_ext (by rw [hexS_size, h])
  intro j hj
  rw [hexS_size] at hj
  have e : ((hexS (parS s)).data.toList.getD j 0).toNat = hexB (parS s) j := nums_byte _ hj (hexB_lt _ j)
  rw [e]
  have e1 : ((parS s).data.toList.getD (j / 2) 0).toNat = parB s (j / 2) := nums_byte _ (by omega) (parB_lt s _)
  unfold hexB
  rw [e1]
  have a := hv_lt (s.data.toList.getD (2 * (j / 2)) 0).toNat
  have b := hv_lt (s.data.toList.getD (2 * (j / 2) + 1) 0).toNat
  have o := ho j hj
  unfold tok at o
  unfold parB tv
  by_cases c : j % 2 = 0
  · rw [if_pos c, show (hv (s.data.toList.getD (2 * (j / 2)) 0).toNat * 16 + hv (s.data.toList.getD (2 * (j / 2) + 1) 0).toNat) / 16 = hv (s.data.toList.getD (2 * (j / 2)) 0).toNat from by omega, show 2 * (j / 2) = j from by omega]
    exact hexc_hv o
  · rw [if_neg c, show (hv (s.data.toList.getD (2 * (j / 2)) 0).toNat * 16 + hv (s.data.toList.getD (2 * (j / 2) + 1) 0).toNat) % 16 = hv (s.data.toList.getD (2 * (j / 2) + 1) 0).toNat from by omega, show 2 * (j / 2) + 1 = j from by omega]
    exact hexc_hv o
end Go.Proofs.YtojmolemhdonfaaDoor
