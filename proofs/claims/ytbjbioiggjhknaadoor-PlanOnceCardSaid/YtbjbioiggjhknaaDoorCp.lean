/-
  Class codes in plain Lean: the parts between dots, the number of a part, the codes of lists of numbers. No program, no statement.
-/
import Derived.Lib.ItoaNum
import Derived.Lib.AtoiAll
import Derived.Lib.Bytealg
import Derived.Lib.AtoiAllCases
namespace Go.Proofs.YtbjbioiggjhknaaDoor
open Go

/-! ### parts -/

def splits : List UInt8 → List (List UInt8)
  | [] => [[]]
  | c :: l => if c = 46 then [] :: splits l else match splits l with
    | [] => [[c]]
    | p :: ps => (c :: p) :: ps

theorem splits_ne (l : List UInt8) : splits l ≠ [] := by
  cases l with
  | nil => simp [splits]
  | cons c l =>
    unfold splits
    split
    · simp
    · split <;> simp

theorem splits_no {l : List UInt8} (h : ∀ c ∈ l, c ≠ 46) : splits l = [l] := by
  induction l with
  | nil => rfl
  | cons c l ih =>
    unfold splits
    rw [if_neg (h c (List.mem_cons_self ..)), ih (fun d hd => h d (List.mem_cons_of_mem _ hd))]

theorem splits_dot {a : List UInt8} (h : ∀ c ∈ a, c ≠ 46) (l : List UInt8) : splits (a ++ 46 :: l) = a :: splits l := by
  induction a with
  | nil => simp [splits]
  | cons c a ih =>
    rw [List.cons_append, splits, if_neg (h c (List.mem_cons_self ..)), ih (fun d hd => h d (List.mem_cons_of_mem _ hd))]

def joinD : List (List UInt8) → List UInt8
  | [] => []
  | [p] => p
  | p :: q :: ps => p ++ 46 :: joinD (q :: ps)

theorem joinD_cons (p : List UInt8) {ps : List (List UInt8)} (h : ps ≠ []) : joinD (p :: ps) = p ++ 46 :: joinD ps := by
  cases ps with
  | nil => exact absurd rfl h
  | cons q ps => rfl

theorem joinD_splits (l : List UInt8) : joinD (splits l) = l := by
  induction l with
  | nil => rfl
  | cons c l ih =>
    unfold splits
    split
    · next h => rw [joinD_cons _ (splits_ne l), ih, h]; rfl
    · next h =>
      generalize hs : splits l = s at ih
      cases s with
      | nil => exact absurd hs (splits_ne l)
      | cons p ps =>
        cases ps with
        | nil => simp only [joinD] at ih ⊢; rw [ih]
        | cons q ps => simp only [joinD] at ih ⊢; rw [List.cons_append, ih]

theorem splits_joinD : ∀ (ps : List (List UInt8)), ps ≠ [] → (∀ p ∈ ps, ∀ c ∈ p, c ≠ 46) → splits (joinD ps) = ps
  | [], h, _ => absurd rfl h
  | [p], _, h => splits_no (h p (List.mem_cons_self ..))
  | p :: q :: ps, _, h => by
    rw [joinD_cons p (by simp), splits_dot (h p (List.mem_cons_self ..)), splits_joinD (q :: ps) (by simp) (fun r hr => h r (List.mem_cons_of_mem _ hr))]

theorem ib_cons (b : UInt8) (l : List UInt8) : Lib.indexByte (b :: l) 46 = if b = 46 then 0 else if Lib.indexByte l 46 = -1 then -1 else Lib.indexByte l 46 + 1 := by
  rw [Lib.indexByte]
  by_cases hb : b = 46
  · simp [hb]
  · rw [if_neg (by simpa using hb), if_neg hb]
    by_cases h : Lib.indexByte l 46 = -1
    · rw [if_pos h]; simp [h]
    · rw [if_neg h, if_neg (by simpa using h)]

theorem ib_no {l : List UInt8} (h : Lib.indexByte l 46 = -1) : ∀ c ∈ l, c ≠ 46 := by
  induction l with
  | nil => intro c hc; cases hc
  | cons b l ih =>
    rw [ib_cons] at h
    have g := Lib.indexByte_ge l 46
    by_cases hb : b = 46
    · rw [if_pos hb] at h; cases h
    · rw [if_neg hb] at h
      by_cases hl : Lib.indexByte l 46 = -1
      · intro c hc
        rcases List.mem_cons.1 hc with rfl | hc
        · exact hb
        · exact ih hl c hc
      · rw [if_neg hl] at h; omega

theorem ib_at {l : List UInt8} {k : Nat} (h : Lib.indexByte l 46 = (k : Int)) : k < l.length ∧ (∀ c ∈ l.take k, c ≠ 46) ∧ l = l.take k ++ 46 :: l.drop (k + 1) := by
  induction l generalizing k with
  | nil => simp [Lib.indexByte] at h
  | cons b l ih =>
    rw [ib_cons] at h
    have g := Lib.indexByte_ge l 46
    by_cases hb : b = 46
    · rw [if_pos hb] at h
      obtain rfl : k = 0 := by omega
      subst hb
      refine ⟨by simp, by simp, by simp⟩
    · rw [if_neg hb] at h
      by_cases hl : Lib.indexByte l 46 = -1
      · rw [if_pos hl] at h; omega
      · rw [if_neg hl] at h
        obtain ⟨j, rfl⟩ : ∃ j, k = j + 1 := ⟨k - 1, by omega⟩
        obtain ⟨h1, h2, h3⟩ := ih (k := j) (by omega)
        refine ⟨by simp; omega, ?_, ?_⟩
        · intro c hc
          rw [List.take_succ_cons] at hc
          rcases List.mem_cons.1 hc with rfl | hc
          · exact hb
          · exact h2 c hc
        · rw [List.take_succ_cons, List.drop_succ_cons, List.cons_append, ← h3]

theorem splits_ib_no {l : List UInt8} (h : Lib.indexByte l 46 = -1) : splits l = [l] := splits_no (ib_no h)
theorem splits_ib_at {l : List UInt8} {k : Nat} (h : Lib.indexByte l 46 = (k : Int)) : splits l = l.take k :: splits (l.drop (k + 1)) := by
  obtain ⟨_, h2, h3⟩ := ib_at h
  conv => lhs; rw [h3]
  exact splits_dot h2 _

/-! ### numbers -/

def dec3 (n : Nat) : List UInt8 :=
  if n < 10 then [UInt8.ofNat (48 + n)] else if n < 100 then [UInt8.ofNat (48 + n / 10), UInt8.ofNat (48 + n % 10)]
  else [UInt8.ofNat (48 + n / 100), UInt8.ofNat (48 + n / 10 % 10), UInt8.ofNat (48 + n % 10)]

theorem itoa_dec3 {n : Nat} (h : n < 1000) : Lib.itoa (n : Int) = dec3 n := by
  unfold Lib.itoa dec3
  rw [if_neg (by omega), Int.toNat_natCast]
  by_cases h1 : n < 10
  · rw [if_pos h1, Lib.decDigits_one h1]
  · rw [if_neg h1]
    by_cases h2 : n < 100
    · rw [if_pos h2, Lib.decDigits_two h1 h2]
    · rw [if_neg h2, Lib.decDigits, dif_neg h1, Lib.decDigits_two (by omega) (by omega)]
      rw [Nat.div_div_eq_div_mul]
      rfl

/-- What number answers. -/
def numOf (l : List UInt8) : Option Int :=
  match Lib.atoiAll l with
  | .ok n => if 1 ≤ n ∧ n ≤ 999 ∧ Lib.itoa n = l then some n else none
  | _ => none

theorem atoi_dec3 : ∀ k : Fin 1000, Lib.atoiAll (dec3 k.val) = .ok (k.val : Int) := by decide +kernel
theorem dec3_dot : ∀ k : Fin 1000, (dec3 k.val).all (fun c => c != 46) = true := by decide +kernel
theorem dec3_len : ∀ k : Fin 1000, 1 ≤ (dec3 k.val).length ∧ (dec3 k.val).length ≤ 3 := by decide +kernel

theorem numOf_some {l : List UInt8} {n : Int} : numOf l = some n ↔ 1 ≤ n ∧ n ≤ 999 ∧ l = Lib.itoa n := by
  constructor
  · intro h
    unfold numOf at h
    split at h
    · next m hm =>
      split at h
      · next hc => cases h; exact ⟨hc.1, hc.2.1, hc.2.2.symm⟩
      · cases h
    · cases h
  · rintro ⟨h1, h2, rfl⟩
    obtain ⟨k, rfl⟩ := Int.eq_ofNat_of_zero_le (show 0 ≤ n by omega)
    have hk : k < 1000 := by omega
    unfold numOf
    rw [itoa_dec3 hk, atoi_dec3 ⟨k, hk⟩]
    simp only
    rw [if_pos ⟨h1, h2, itoa_dec3 hk⟩]

theorem itoa_nodot {n : Int} (h1 : 1 ≤ n) (h2 : n ≤ 999) : ∀ c ∈ Lib.itoa n, c ≠ 46 := by
  obtain ⟨k, rfl⟩ := Int.eq_ofNat_of_zero_le (show 0 ≤ n by omega)
  have hk : k < 1000 := by omega
  rw [itoa_dec3 hk]
  intro c hc
  have := List.all_eq_true.1 (dec3_dot ⟨k, hk⟩) c hc
  simpa using this

theorem itoa_len {n : Int} (h1 : 1 ≤ n) (h2 : n ≤ 999) : 1 ≤ (Lib.itoa n).length ∧ (Lib.itoa n).length ≤ 3 := by
  obtain ⟨k, rfl⟩ := Int.eq_ofNat_of_zero_le (show 0 ≤ n by omega)
  have hk : k < 1000 := by omega
  rw [itoa_dec3 hk]
  exact dec3_len ⟨k, hk⟩

theorem itoa_inj {n m : Int} (h1 : 1 ≤ n) (h2 : n ≤ 999) (h3 : 1 ≤ m) (h4 : m ≤ 999) (h : Lib.itoa n = Lib.itoa m) : n = m := by
  have a := numOf_some.2 ⟨h1, h2, rfl⟩
  have b := numOf_some.2 ⟨h3, h4, rfl⟩
  rw [h, b] at a
  exact (Option.some.inj a).symm

/-! ### codes -/

def GoodN (ns : List Int) : Prop := ∀ n ∈ ns, 1 ≤ n ∧ n ≤ 999
def GoodL (ns : List Int) : Prop := 1 ≤ ns.length ∧ ns.length ≤ 6 ∧ GoodN ns
def textOf (ns : List Int) : List UInt8 := joinD (ns.map Lib.itoa)
/-- The text l is the class code with the numbers ns. -/
def Is (l : List UInt8) (ns : List Int) : Prop := GoodL ns ∧ l = textOf ns

theorem splits_textOf {ns : List Int} (h : GoodN ns) (h0 : ns ≠ []) : splits (textOf ns) = ns.map Lib.itoa := by
  refine splits_joinD _ (by simpa using h0) ?_
  intro p hp
  obtain ⟨n, hn, rfl⟩ := List.mem_map.1 hp
  exact itoa_nodot (h n hn).1 (h n hn).2

theorem map_itoa_inj : ∀ {ns ms : List Int}, GoodN ns → GoodN ms → ns.map Lib.itoa = ms.map Lib.itoa → ns = ms
  | [], [], _, _, _ => rfl
  | [], m :: ms, _, _, h => by simp at h
  | n :: ns, [], _, _, h => by simp at h
  | n :: ns, m :: ms, h1, h2, h => by
    simp only [List.map_cons, List.cons.injEq] at h
    rw [itoa_inj (h1 n (List.mem_cons_self ..)).1 (h1 n (List.mem_cons_self ..)).2 (h2 m (List.mem_cons_self ..)).1 (h2 m (List.mem_cons_self ..)).2 h.1,
      map_itoa_inj (fun x hx => h1 x (List.mem_cons_of_mem _ hx)) (fun x hx => h2 x (List.mem_cons_of_mem _ hx)) h.2]

theorem GoodL.ne {ns : List Int} (h : GoodL ns) : ns ≠ [] := by rintro rfl; exact absurd h.1 (by simp)
theorem Is.unique {l : List UInt8} {ns ms : List Int} (h : Is l ns) (k : Is l ms) : ns = ms := by
  refine map_itoa_inj h.1.2.2 k.1.2.2 ?_
  rw [← splits_textOf h.1.2.2 h.1.ne, ← splits_textOf k.1.2.2 k.1.ne, ← h.2, ← k.2]

/-- The numbers of the parts, as far as all are numbers. -/
def Nums (ps : List (List UInt8)) (ns : List Int) : Prop := GoodN ns ∧ ps = ns.map Lib.itoa
theorem Nums.nil : Nums [] [] := ⟨(fun _ h => by cases h), rfl⟩
theorem Nums.snoc {ps : List (List UInt8)} {ns : List Int} {p : List UInt8} {n : Int} (h : Nums ps ns) (k : numOf p = some n) : Nums (ps ++ [p]) (ns ++ [n]) := by
  obtain ⟨h1, h2, h3⟩ := numOf_some.1 k
  refine ⟨?_, by rw [h.2, h3]; simp⟩
  intro m hm
  rcases List.mem_append.1 hm with hm | hm
  · exact h.1 m hm
  · rw [List.mem_singleton.1 hm]; exact ⟨h1, h2⟩
theorem Nums.is {l : List UInt8} {ns : List Int} (h : Nums (splits l) ns) (hl : ns.length ≤ 6) : Is l ns := by
  have hne : ns ≠ [] := by
    rintro rfl
    exact splits_ne l h.2
  refine ⟨⟨?_, hl, h.1⟩, ?_⟩
  · cases ns with
    | nil => exact absurd rfl hne
    | cons n ns => simp
  · rw [textOf, ← h.2, joinD_splits]
theorem Is.nums {l : List UInt8} {ns : List Int} (h : Is l ns) : Nums (splits l) ns := ⟨h.1.2.2, by rw [h.2, splits_textOf h.1.2.2 h.1.ne]⟩
/-- A bad part, or a seventh one: no code. -/
theorem not_is {l : List UInt8} {pre : List (List UInt8)} {x : List UInt8} {rest : List (List UInt8)} (hs : splits l = pre ++ x :: rest) (h : numOf x = none ∨ pre.length = 6) : ∀ ns, ¬ Is l ns := by
  intro ns hi
  have hn := hi.nums
  rw [hs] at hn
  obtain ⟨g, e⟩ := hn
  rcases h with h | h
  · have : x ∈ ns.map Lib.itoa := by rw [← e]; simp
    obtain ⟨n, h1, h2⟩ := List.mem_map.1 this
    have := numOf_some.2 ⟨(g n h1).1, (g n h1).2, h2.symm⟩
    rw [h] at this; cases this
  · have := congrArg List.length e
    simp at this
    have := hi.1.2.1
    omega

end Go.Proofs.YtbjbioiggjhknaaDoor
