/-
  The natural order of strings in plain Lean: total and transitive. No program, no statement.
-/
import Derived.Lib.Bytealg
namespace Go.Proofs.YtbpoggdinefkeaaGreatDoor
open Go

/-- A comparison: -1, 0 or 1, turned by exchange, transitive. -/
structure Ord3 {α : Type} (c : α → α → Int) : Prop where
  range : ∀ x y, c x y = -1 ∨ c x y = 0 ∨ c x y = 1
  neg : ∀ x y, c y x = - c x y
  trans : ∀ x y z, c x y ≤ 0 → c y z ≤ 0 → c x z ≤ 0

def thenC {α : Type} (c d : α → α → Int) (x y : α) : Int := if c x y = 0 then d x y else c x y

theorem Ord3.self {α : Type} {c : α → α → Int} (h : Ord3 c) (x : α) : c x x = 0 := by have := h.neg x x; omega
theorem Ord3.mid {α : Type} {c : α → α → Int} (h : Ord3 c) {x y z : α} (h1 : c x y ≤ 0) (h2 : c y z ≤ 0) (h3 : c x z = 0) : c x y = 0 ∧ c y z = 0 := by
  have a := h.neg x z
  have b := h.trans y z x h2 (by omega)
  have b' := h.trans z x y (by omega) h1
  have e := h.neg x y
  have e' := h.neg y z
  omega
theorem Ord3.then {α : Type} {c d : α → α → Int} (h : Ord3 c) (k : Ord3 d) : Ord3 (thenC c d) := by
  refine ⟨fun x y => ?_, fun x y => ?_, fun x y z h1 h2 => ?_⟩
  · unfold thenC; split
    · exact k.range x y
    · exact h.range x y
  · unfold thenC
    have := h.neg x y
    by_cases e : c x y = 0
    · rw [if_pos e, if_pos (by omega)]; exact k.neg x y
    · rw [if_neg e, if_neg (by omega)]; exact this
  · unfold thenC at *
    have a1 : c x y ≤ 0 := by split at h1 <;> omega
    have a2 : c y z ≤ 0 := by split at h2 <;> omega
    have a3 := h.trans x y z a1 a2
    by_cases e : c x z = 0
    · obtain ⟨e1, e2⟩ := h.mid a1 a2 e
      rw [if_pos e1] at h1
      rw [if_pos e2] at h2
      rw [if_pos e]
      exact k.trans x y z h1 h2
    · rw [if_neg e]; exact a3
theorem Ord3.of {α β : Type} {c : β → β → Int} (h : Ord3 c) (f : α → β) : Ord3 (fun x y => c (f x) (f y)) :=
  ⟨fun _ _ => h.range _ _, fun _ _ => h.neg _ _, fun _ _ _ => h.trans _ _ _⟩

def cmpI (x y : Int) : Int := if x < y then -1 else if y < x then 1 else 0
theorem ordI : Ord3 cmpI := by
  refine ⟨fun x y => ?_, fun x y => ?_, fun x y z h1 h2 => ?_⟩
  · unfold cmpI; split
    · simp
    · split <;> simp
  · unfold cmpI
    by_cases a : x < y
    · rw [if_neg (by omega), if_pos a, if_pos a]; omega
    · by_cases b : y < x
      · rw [if_pos b, if_neg a, if_pos b]
      · rw [if_neg b, if_neg a, if_neg a, if_neg b]; omega
  · unfold cmpI at *
    have a1 : x ≤ y := by split at h1; omega; split at h1 <;> omega
    have a2 : y ≤ z := by split at h2; omega; split at h2 <;> omega
    split
    · omega
    · split <;> omega

/-- Lists, element by element; what ends first is less. -/
def lexC {α : Type} (c : α → α → Int) : List α → List α → Int
  | [], [] => 0
  | [], _ :: _ => -1
  | _ :: _, [] => 1
  | x :: xs, y :: ys => if c x y = 0 then lexC c xs ys else c x y
theorem Ord3.lex {α : Type} {c : α → α → Int} (h : Ord3 c) : Ord3 (lexC c) := by
  refine ⟨?_, ?_, ?_⟩
  · intro x
    induction x with
    | nil => intro y; cases y <;> simp [lexC]
    | cons a x ih =>
      intro y
      cases y with
      | nil => simp [lexC]
      | cons b y =>
        rw [lexC]; split
        · exact ih y
        · exact h.range a b
  · intro x
    induction x with
    | nil => intro y; cases y <;> simp [lexC]
    | cons a x ih =>
      intro y
      cases y with
      | nil => simp [lexC]
      | cons b y =>
        have := h.neg a b
        rw [lexC, lexC]
        by_cases e : c a b = 0
        · rw [if_pos (by omega), if_pos e]; exact ih y
        · rw [if_neg (by omega), if_neg e]; exact this
  · intro x
    induction x with
    | nil => intro y z _ _; cases z <;> simp [lexC]
    | cons a x ih =>
      intro y z h1 h2
      cases y with
      | nil => simp [lexC] at h1
      | cons b y =>
        cases z with
        | nil => simp [lexC] at h2
        | cons d z =>
          rw [lexC] at h1 h2 ⊢
          have a1 : c a b ≤ 0 := by split at h1 <;> omega
          have a2 : c b d ≤ 0 := by split at h2 <;> omega
          have a3 := h.trans a b d a1 a2
          by_cases e : c a d = 0
          · obtain ⟨e1, e2⟩ := h.mid a1 a2 e
            rw [if_pos e1] at h1
            rw [if_pos e2] at h2
            rw [if_pos e]
            exact ih y z h1 h2
          · rw [if_neg e]; exact a3
theorem lexC_zero {α : Type} {c : α → α → Int} (h : ∀ x y, c x y = 0 ↔ x = y) : ∀ xs ys, lexC c xs ys = 0 ↔ xs = ys
  | [], [] => by simp [lexC]
  | [], _ :: _ => by simp [lexC]
  | _ :: _, [] => by simp [lexC]
  | x :: xs, y :: ys => by
    rw [lexC]
    by_cases e : c x y = 0
    · rw [if_pos e, lexC_zero h xs ys, (h x y).1 e]; simp
    · rw [if_neg e]
      constructor
      · intro k; exact absurd k e
      · intro k; cases k; exact absurd ((h x x).2 rfl) e

/-! ### bytes -/
def cmpU (x y : UInt8) : Int := cmpI x.toNat y.toNat
theorem cmpU_zero (x y : UInt8) : cmpU x y = 0 ↔ x = y := by
  unfold cmpU cmpI
  rw [← UInt8.toNat_inj]
  split
  · constructor <;> omega
  · split <;> (constructor <;> omega)
theorem compareBytes_lex : ∀ a b : List UInt8, Lib.compareBytes a b = lexC cmpU a b
  | [], [] => rfl
  | [], _ :: _ => rfl
  | _ :: _, [] => rfl
  | x :: a, y :: b => by
    rw [Lib.compareBytes, lexC, compareBytes_lex a b]
    unfold cmpU cmpI
    simp only [UInt8.lt_iff_toNat_lt, Int.ofNat_lt]
    by_cases h1 : x.toNat < y.toNat
    · simp [h1]
    · by_cases h2 : y.toNat < x.toNat
      · simp [h1, h2]
      · simp [h1, h2]
theorem ordB : Ord3 Lib.compareBytes := by
  have h : Ord3 (lexC cmpU) := (ordI.of (fun x : UInt8 => (x.toNat : Int))).lex
  have e : Lib.compareBytes = lexC cmpU := by funext a b; exact compareBytes_lex a b
  rw [e]; exact h
theorem cmpB_zero (a b : List UInt8) : Lib.compareBytes a b = 0 ↔ a = b := by rw [compareBytes_lex]; exact lexC_zero cmpU_zero a b

/-! ### parts -/
def dig (c : UInt8) : Bool := decide (48 ≤ c.toNat) && decide (c.toNat ≤ 57)
def firstP (l : List UInt8) : List UInt8 := if l.takeWhile dig = [] then l.take 1 else l.takeWhile dig
def restP (l : List UInt8) : List UInt8 := l.drop (firstP l).length
theorem firstP_pos {l : List UInt8} (h : l ≠ []) : 1 ≤ (firstP l).length := by
  unfold firstP
  split
  · cases l with
    | nil => exact absurd rfl h
    | cons c l => simp
  · next e => cases hh : l.takeWhile dig with
    | nil => exact absurd hh e
    | cons _ _ => simp
theorem firstP_nil : firstP [] = [] := by simp [firstP]
theorem restP_len {l : List UInt8} (h : l ≠ []) : (restP l).length < l.length := by
  have := firstP_pos h
  have h' : 1 ≤ l.length := by cases l with | nil => exact absurd rfl h | cons _ _ => simp
  unfold restP; rw [List.length_drop]; omega
theorem restP_nil : restP [] = [] := by simp [restP]
theorem firstP_pre (l : List UInt8) : firstP l = l.take (firstP l).length := by
  unfold firstP
  split
  · cases l <;> simp
  · exact (List.prefix_iff_eq_take.1 (List.takeWhile_prefix dig))

def kindOf (p : List UInt8) : Int := match p with | [] => 0 | c :: _ => if dig c then 1 else 2
def strip (p : List UInt8) : List UInt8 := p.dropWhile (· == 48)
/-- compareParts. -/
def cmpP : List UInt8 → List UInt8 → Int :=
  thenC (fun p q => cmpI (kindOf p) (kindOf q)) (thenC (fun p q => cmpI (strip p).length (strip q).length) (fun p q => Lib.compareBytes (strip p) (strip q)))
theorem ordP : Ord3 cmpP := (ordI.of kindOf).then ((ordI.of (fun p => ((strip p).length : Int))).then (ordB.of strip))

def partsF : Nat → List UInt8 → List (List UInt8)
  | 0, _ => []
  | n + 1, l => if l = [] then [] else firstP l :: partsF n (restP l)
def partsL (l : List UInt8) : List (List UInt8) := partsF l.length l
theorem partsF_more : ∀ (n m : Nat) (l : List UInt8), l.length ≤ n → l.length ≤ m → partsF n l = partsF m l
  | 0, 0, _, _, _ => rfl
  | 0, m + 1, l, h, _ => by
    have : l = [] := List.length_eq_zero_iff.1 (by omega)
    subst this; simp [partsF]
  | n + 1, 0, l, _, h => by
    have : l = [] := List.length_eq_zero_iff.1 (by omega)
    subst this; simp [partsF]
  | n + 1, m + 1, l, h1, h2 => by
    rw [partsF, partsF]
    by_cases e : l = []
    · rw [if_pos e, if_pos e]
    · have := restP_len e
      rw [if_neg e, if_neg e, partsF_more n m (restP l) (by omega) (by omega)]
theorem partsL_nil : partsL [] = [] := rfl
theorem partsL_cons {l : List UInt8} (h : l ≠ []) : partsL l = firstP l :: partsL (restP l) := by
  have := restP_len h
  unfold partsL
  obtain ⟨n, hn⟩ : ∃ n, l.length = n + 1 := ⟨l.length - 1, by omega⟩
  rw [hn, partsF, if_neg h, partsF_more n (restP l).length _ (by omega) (Nat.le_refl _)]

def nat (a b : List UInt8) : Int := thenC (fun a b => lexC cmpP (partsL a) (partsL b)) Lib.compareBytes a b
theorem ordN : Ord3 nat := (ordP.lex.of partsL).then ordB
theorem nat_zero (a b : List UInt8) : nat a b = 0 ↔ a = b := by
  constructor
  · intro h
    unfold nat thenC at h
    split at h
    · exact (cmpB_zero a b).1 h
    · next e => exact absurd h e
  · rintro rfl; exact ordN.self a

theorem kindOf_first {l : List UInt8} (h : l ≠ []) : kindOf (firstP l) ≠ 0 := by
  have := firstP_pos h
  cases hh : firstP l with
  | nil => rw [hh] at this; simp at this
  | cons c p => unfold kindOf; simp only; split <;> omega
/-- A round of the loop over the parts. -/
theorem lex_step (a b : List UInt8) (h : a ≠ [] ∨ b ≠ []) : lexC cmpP (partsL a) (partsL b) = if cmpP (firstP a) (firstP b) = 0 then lexC cmpP (partsL (restP a)) (partsL (restP b)) else cmpP (firstP a) (firstP b) := by
  by_cases ha : a = []
  · subst ha
    have hb : b ≠ [] := by
      rcases h with h | h
      · exact absurd rfl h
      · exact h
    have k := kindOf_first hb
    have e : cmpP [] (firstP b) = -1 := by
      have kb : kindOf (firstP b) = 1 ∨ kindOf (firstP b) = 2 := by
        cases hh : firstP b with
        | nil => rw [hh] at k; exact absurd rfl k
        | cons c p => unfold kindOf; simp only; split <;> simp
      have k0 : kindOf [] = 0 := rfl
      have : cmpI (kindOf []) (kindOf (firstP b)) = -1 := by unfold cmpI; rw [if_pos (by omega)]
      unfold cmpP thenC
      simp [this]
    rw [partsL_nil, partsL_cons hb, firstP_nil, e]; simp [lexC]
  · by_cases hb : b = []
    · subst hb
      have k := kindOf_first ha
      have e : cmpP (firstP a) [] = 1 := by
        have kb : kindOf (firstP a) = 1 ∨ kindOf (firstP a) = 2 := by
          cases hh : firstP a with
          | nil => rw [hh] at k; exact absurd rfl k
          | cons c p => unfold kindOf; simp only; split <;> simp
        have k0 : kindOf [] = 0 := rfl
        have : cmpI (kindOf (firstP a)) (kindOf []) = 1 := by unfold cmpI; rw [if_neg (by omega), if_pos (by omega)]
        unfold cmpP thenC
        simp [this]
      rw [partsL_nil, partsL_cons ha, firstP_nil, e]; simp [lexC]
    · rw [partsL_cons ha, partsL_cons hb, lexC]

end Go.Proofs.YtbpoggdinefkeaaGreatDoor
