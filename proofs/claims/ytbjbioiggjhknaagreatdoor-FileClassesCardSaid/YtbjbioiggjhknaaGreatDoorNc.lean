/-
  isChild, Children of the code and of the reference; SameStrings. No statement of the seat is proved here.
-/
import Derived.Test.YtbjbioiggjhknaaGreatDoorNr
namespace Go.Proofs.YtbjbioiggjhknaaGreatDoor
open Go Go.RowKit

/-- The parent of a class, or the empty string. -/
def pn (c : ByteArray) : ByteArray := (par c).getD emp
theorem Parent_pn (c : ByteArray) (w : World) (hE : Env w) (hc : c.size ≤ 1000000000000) :
    Calls Tryz.prog 69 #[.string c] w fun e w' => ∃ B, e = .returned (.tuple #[.string (pn c), .bool B]) ∧ Below w.heap.size w w' := by
  refine (Parent_any c w hE hc).mono ?_
  rintro e w' ⟨rfl, hb⟩
  unfold pn optV
  cases par c with
  | none => exact ⟨false, rfl, hb⟩
  | some q => exact ⟨true, rfl, hb⟩
theorem ParentR_pn (c : ByteArray) (w : World) (hE : Env w) (hc : c.size ≤ 1000000000000) :
    Calls Tryz.prog 80 #[.string c] w fun e w' => ∃ B, e = .returned (.tuple #[.string (pn c), .bool B]) ∧ Below w.heap.size w w' := by
  refine (ParentR_any c w hE hc).mono ?_
  rintro e w' ⟨rfl, hb⟩
  unfold pn optV
  cases par c with
  | none => exact ⟨false, rfl, hb⟩
  | some q => exact ⟨true, rfl, hb⟩
theorem Parse_e (s : ByteArray) (w : World) (hE : Env w) (hs : s.size ≤ 1000000000000) :
    Calls Tryz.prog 65 #[.string s] w fun e w' => ∃ v, e = .returned (.tuple #[v, .int .i64 (if isC s then 0 else 3)]) ∧ Below w.heap.size w w' := by
  cases h : isC s with
  | true => exact Parse_yes' s w hE hs h
  | false => exact Parse_no' s w hE hs h
theorem GoodR_any (s : ByteArray) (w : World) (hE : Env w) (hs : s.size ≤ 1000000000000) :
    Calls Tryz.prog 77 #[.string s] w fun e w' => e = .returned (.bool (isC s)) ∧ Below w.heap.size w w' := by
  unfold isC
  rcases refParse_ans s hs with ⟨xs, h1, h2⟩ | ⟨h1, h2⟩
  · rw [codeN_some.2 h1]
    exact Good_any s w hE true 0 xs _ rfl h2
  · rw [codeN_none.2 h1]
    exact Good_any s w hE false 3 [] _ rfl h2

/-- A class that stands directly below another one. -/
def chi (s : ByteArray) (y : Pr) : Bool := isC y.c && decide (pn y.c = s)

/-- Strings in memory, one behind the other. -/
def StrsAt (w : World) (p : Option Addr) (l : List Pr) : Prop := l = [] ∨ ∃ blk off, p = some ⟨blk, off, none⟩ ∧ ∀ i x, l[i]? = some x → w.cell? ⟨blk, off + i, none⟩ = some (.string x.c)
theorem StrsAt.next {w w' : World} {p : Option Addr} {l : List Pr} (h : StrsAt w p l) (hb : Below w.heap.size w w') : StrsAt w' p l := by
  rcases h with h | ⟨blk, off, hp, h⟩
  · exact .inl h
  · exact .inr ⟨blk, off, hp, fun i x hi => cell_next (h i x hi) hb⟩
theorem StrsAt.get {w : World} {p : Option Addr} {l : List Pr} (h : StrsAt w p l) {i : Nat} {x : Pr} (hi : l[i]? = some x) : ∃ blk off, p = some ⟨blk, off, none⟩ ∧ w.cell? ⟨blk, off + i, none⟩ = some (.string x.c) := by
  rcases h with h | ⟨blk, off, hp, h⟩
  · subst h; simp at hi
  · exact ⟨blk, off, hp, h i x hi⟩
theorem strs_of_row {w : World} {B T : Nat} {v : Value} {l : List Pr} (h : w.ownsRow B T 1 v l.length (strC l)) : ∃ p cap, v = .slice p l.length cap ∧ StrsAt w p l := by
  rcases Go.Joins.ownsRow_forms h with ⟨rfl, hn⟩ | ⟨g, cap, rfl⟩
  · have : l = [] := List.length_eq_zero_iff.1 hn
    subst this
    exact ⟨none, 0, rfl, Or.inl rfl⟩
  · refine ⟨_, cap, rfl, Or.inr ⟨g, 0, rfl, fun i x hi => ?_⟩⟩
    have z : (strC l)[i]? = some (.string x.c) := by unfold strC; rw [List.getElem?_map, hi]; rfl
    have := h.cells (g := g) rfl i _ z
    rwa [Addr.add_lit] at this

set_option maxRecDepth 100000 in
set_option maxHeartbeats 8000000 in
theorem SameStr_any (p q : Option Addr) (n c1 c2 : Nat) (l : List Pr) (w : World) (hP : StrsAt w p l) (hQ : StrsAt w q l) (hl : l.length = n) (hn : n ≤ 1000000000) :
    Calls Tryz.prog 16 #[.slice p n c1, .slice q n c2] w fun e w' => e = .returned (.bool true) ∧ Below w.heap.size w w' := by
  have P0 := Lib.hid hP; have Q0 := Lib.hid hQ; have HL := Lib.hid hl
  clear hP hQ hl
  go_enter Tryz.func16, Tryz.ntmps16
  go_wp2_with fail
  go_loopw [5] (fun i wr => ∃ k : Nat, k ≤ n ∧ i = .int .i64 k ∧ Below w.heap.size w wr) (fun i _ => n - (intOf i).toNat)
  case atStart => exact ⟨0, Nat.zero_le _, rfl, Below.refl _ _⟩
  case round =>
    obtain ⟨k, hk, rfl, hb⟩ := hrel
    have NB := Lib.hid hb
    by_cases hkn : k < n
    · obtain ⟨y, hy⟩ : ∃ y, l[k]? = some y := ⟨_, List.getElem?_eq_getElem (by rw [HL.out]; exact hkn)⟩
      obtain ⟨blk, off, hp, a0⟩ := (P0.out.next hb).get hy
      obtain ⟨blk2, off2, hq, b0⟩ := (Q0.out.next hb).get hy
      subst hp
      subst hq
      have hkd : decide ((k : Int) < (n : Int)) = true := by simp; omega
      have f := ba_eq' (rfl : y.c = y.c)
      clear hb hy
      go_wp2_with fail
      go_quiet (fail)
      go_wp2_with fail
      go_roundw
      case rel => exact ⟨k + 1, hkn, by go_num, below_drewN NB.out _⟩
      case measure => simp [intOf]; omega
    · have hkd : decide ((k : Int) < (n : Int)) = false := by simp; omega
      clear hb
      go_wp2_with fail
      go_ret
      exact ⟨rfl, NB.out⟩

end Go.Proofs.YtbjbioiggjhknaaGreatDoor
