/-
  A set of strings as a map to bools that the call itself made. No statement of the seat is proved here.
-/
import Derived.Test.YtbpoggdinefkeaaGreatDoorWn
import Derived.Maps.OwnSet
import Derived.Maps.OwnOps
import Derived.StringKeys
namespace Go.Proofs.YtbpoggdinefkeaaGreatDoor
open Go Go.RowKit Go.Shelf Go.Maps

abbrev bit (b : Bool) : DataW Unit := .lit (.bool b)

/-- Block b is a map that says true of the strings of l, and of no others. -/
def SetB (w : World) (b n : Nat) (l : List (List UInt8)) : Prop :=
  ∃ D : DataW Unit, w.ownsMap Tryz.prog 9 (plainElem Tryz.prog 4) b n D ∧ ∀ k, D.atKey (.string k) (bit false) = bit (decide (k ∈ l))

theorem SetB.new (w : World) : SetB (w.alloc (.map #[] 0)) w.heap.size 0 [] := ⟨_, World.ownsMap_made w _ _ _, fun _ => rfl⟩
theorem SetB.kept {w w' : World} {b n : Nat} {l : List (List UInt8)} {row : Option Nat} (h : SetB w b n l) (hg : w.grownBy w' row) (hne : some b ≠ row) : SetB w' b n l := by
  obtain ⟨D, h1, h2⟩ := h
  exact ⟨D, h1.kept hg hne, h2⟩
theorem SetB.next {w w' : World} {b n : Nat} {l : List (List UInt8)} (h : SetB w b n l) (hb : Below w.heap.size w w') : SetB w' b n l := h.kept (grown_of_below hb) (by simp)

set_option maxRecDepth 100000 in
theorem plainElem_bool_inv {v : Value} {x : Bool} {ps : List MemPlace} (h : plainElem (H := Unit) Tryz.prog 4 v = some (bit x, ps)) : v = .bool x := by
  unfold plainElem at h
  rw [Tryz.underlying4] at h
  cases v <;> simp at h
  obtain ⟨rfl, _⟩ := h
  rfl

theorem SetB.look {w : World} {b n : Nat} {l : List (List UInt8)} (h : SetB w b n l) (s : ByteArray) (hs : s.size ≤ maxLen) : (Instr.lookup 47 (.map (some b)) (.string s) false).run Tryz.prog w = .ok (.bool (decide (bs s ∈ l))) w := by
  obtain ⟨D, h1, h2⟩ := h
  obtain ⟨v, ps, hr, hv⟩ := h1.lookup (t := 47) (e := 4) (string_keyed Tryz.underlying9) Tryz.underlying47 (Tryz.zeroValue4 w) (plainElem_bool Tryz.underlying4 false) (WideMaps.keyOf_string_mk Tryz.underlying9 hs)
  rw [h2] at hv
  rw [hr, plainElem_bool_inv hv]
  rfl
theorem SetB.put {w' : World} {b n : Nat} {l : List (List UInt8)} {D : DataW Unit} (s : ByteArray) (hm : Maps.IsMap D) (h2 : ∀ k, D.atKey (.string k) (bit false) = bit (decide (k ∈ l)))
    (h : w'.ownsMap Tryz.prog 9 (plainElem Tryz.prog 4) b (n + 1) (D.put (.string s.data.toList) (bit true))) : SetB w' b (n + 1) (l ++ [bs s]) := by
  refine ⟨_, h, fun k => ?_⟩
  by_cases e : k = bs s
  · subst e
    have := atKey_put_same hm (k := .string s.data.toList) trivial (bit true) (bit false)
    exact this.trans (by simp)
  · have := atKey_put_other (D := D) (k := .string s.data.toList) (k' := .string k) (fun h => e (by cases h; rfl)) (bit true) (bit false)
    rw [this, h2]; simp [e]

end Go.Proofs.YtbpoggdinefkeaaGreatDoor
