/-
  Plans, classes and notes in plain Lean and as memory holds them. No statement of the seat is proved here.
-/
import Derived.Test.YtbjbioiggjhknaaDoorNm
import Derived.Lib.SmallJoins
namespace Go.Proofs.YtbjbioiggjhknaaDoor
open Go Go.RowKit

/-- A pair of strings: a class with its title, or a class that was moved. -/
structure Pr where
  c : ByteArray
  t : ByteArray
def PrAt (w : World) (b o : Nat) (x : Pr) : Prop := w.cell? ⟨b, o, none⟩ = some (.string x.c) ∧ w.cell? ⟨b, o + 1, none⟩ = some (.string x.t)
theorem PrAt.lt {w : World} {b o : Nat} {x : Pr} (h : PrAt w b o x) : b < w.heap.size := World.block_lt_of_cell? w _ h.1
theorem PrAt.below {w w' : World} {B b o : Nat} {x : Pr} (h : PrAt w b o x) (hb : Below B w w') (hB : b < B) : PrAt w' b o x :=
  ⟨(hb.cell (p := ⟨b, o, none⟩) hB).trans h.1, (hb.cell (p := ⟨b, o + 1, none⟩) hB).trans h.2⟩
theorem PrAt.next {w w' : World} {b o : Nat} {x : Pr} (h : PrAt w b o x) (hb : Below w.heap.size w w') : PrAt w' b o x := h.below hb h.lt
def PrsAt (w : World) (p : Option Addr) (l : List Pr) : Prop := l = [] ∨ ∃ blk off, p = some ⟨blk, off, none⟩ ∧ ∀ i x, l[i]? = some x → PrAt w blk (off + i * 2) x
theorem PrsAt.next {w w' : World} {p : Option Addr} {l : List Pr} (h : PrsAt w p l) (hb : Below w.heap.size w w') : PrsAt w' p l := by
  rcases h with h | ⟨blk, off, hp, h⟩
  · exact Or.inl h
  · exact Or.inr ⟨blk, off, hp, fun i x hi => (h i x hi).next hb⟩
theorem PrsAt.get {w : World} {p : Option Addr} {l : List Pr} (h : PrsAt w p l) {i : Nat} {x : Pr} (hi : l[i]? = some x) : ∃ blk off, p = some ⟨blk, off, none⟩ ∧ PrAt w blk (off + i * 2) x := by
  rcases h with h | ⟨blk, off, hp, h⟩
  · subst h; simp at hi
  · exact ⟨blk, off, hp, h i x hi⟩

/-- A version of a plan: its number, its span, its classes, what was moved. -/
structure Pln where
  v : Int
  f : Int
  u : Int
  cp : Option Addr
  cc : Nat
  cs : List Pr
  mp : Option Addr
  mc : Nat
  ms : List Pr
def Pln.val (x : Pln) : Value := .agg #[.int .i64 x.v, .int .i64 x.f, .int .i64 x.u, .slice x.cp x.cs.length x.cc, .slice x.mp x.ms.length x.mc]
def PlnOk (w : World) (x : Pln) : Prop := PrsAt w x.cp x.cs ∧ PrsAt w x.mp x.ms
theorem PlnOk.next {w w' : World} {x : Pln} (h : PlnOk w x) (hb : Below w.heap.size w w') : PlnOk w' x := ⟨h.1.next hb, h.2.next hb⟩
def PlnAt (w : World) (b o : Nat) (x : Pln) : Prop := w.cell? ⟨b, o, none⟩ = some (.int .i64 x.v) ∧ w.cell? ⟨b, o + 1, none⟩ = some (.int .i64 x.f) ∧ w.cell? ⟨b, o + 2, none⟩ = some (.int .i64 x.u) ∧
  w.cell? ⟨b, o + 3, none⟩ = some (.slice x.cp x.cs.length x.cc) ∧ w.cell? ⟨b, o + 4, none⟩ = some (.slice x.mp x.ms.length x.mc)
theorem PlnAt.lt {w : World} {b o : Nat} {x : Pln} (h : PlnAt w b o x) : b < w.heap.size := World.block_lt_of_cell? w _ h.1
theorem PlnAt.next {w w' : World} {b o : Nat} {x : Pln} (h : PlnAt w b o x) (hb : Below w.heap.size w w') : PlnAt w' b o x :=
  ⟨(hb.cell (p := ⟨b, o, none⟩) h.lt).trans h.1, (hb.cell (p := ⟨b, o + 1, none⟩) h.lt).trans h.2.1, (hb.cell (p := ⟨b, o + 2, none⟩) h.lt).trans h.2.2.1, (hb.cell (p := ⟨b, o + 3, none⟩) h.lt).trans h.2.2.2.1, (hb.cell (p := ⟨b, o + 4, none⟩) h.lt).trans h.2.2.2.2⟩
def PlnsAt (w : World) (p : Option Addr) (l : List Pln) : Prop := l = [] ∨ ∃ blk off, p = some ⟨blk, off, none⟩ ∧ ∀ i x, l[i]? = some x → PlnAt w blk (off + i * 5) x ∧ PlnOk w x
theorem PlnsAt.next {w w' : World} {p : Option Addr} {l : List Pln} (h : PlnsAt w p l) (hb : Below w.heap.size w w') : PlnsAt w' p l := by
  rcases h with h | ⟨blk, off, hp, h⟩
  · exact Or.inl h
  · exact Or.inr ⟨blk, off, hp, fun i x hi => ⟨(h i x hi).1.next hb, (h i x hi).2.next hb⟩⟩
theorem PlnsAt.get {w : World} {p : Option Addr} {l : List Pln} (h : PlnsAt w p l) {i : Nat} {x : Pln} (hi : l[i]? = some x) : ∃ blk off, p = some ⟨blk, off, none⟩ ∧ PlnAt w blk (off + i * 5) x ∧ PlnOk w x := by
  rcases h with h | ⟨blk, off, hp, h⟩
  · subst h; simp at hi
  · exact ⟨blk, off, hp, h i x hi⟩

/-- The numbers of a class code. -/
def codeN (l : List UInt8) : Option (List Int) := if (splits l).length ≤ 6 then (splits l).mapM numOf else none
theorem mapM_num : ∀ (ps : List (List UInt8)) (ns : List Int), ps.mapM numOf = some ns ↔ Nums ps ns
  | [], ns => by
    simp only [List.mapM_nil]
    constructor
    · intro h
      obtain rfl : [] = ns := Option.some.inj h
      exact Nums.nil
    · rintro ⟨_, h⟩
      cases ns with
      | nil => rfl
      | cons => simp at h
  | p :: ps, ns => by
    rw [List.mapM_cons]
    constructor
    · intro h
      cases hp : numOf p with
      | none => rw [hp] at h; simp at h
      | some n =>
        cases hq : ps.mapM numOf with
        | none => rw [hp, hq] at h; simp at h
        | some ms =>
          rw [hp, hq] at h
          obtain rfl : n :: ms = ns := by simpa using h
          obtain ⟨h1, h2⟩ := (mapM_num ps ms).1 hq
          obtain ⟨g1, g2, g3⟩ := numOf_some.1 hp
          refine ⟨fun m hm => ?_, by rw [List.map_cons, ← h2, ← g3]⟩
          rcases List.mem_cons.1 hm with rfl | k
          · exact ⟨g1, g2⟩
          · exact h1 m k
    · rintro ⟨h1, h2⟩
      cases ns with
      | nil => simp at h2
      | cons n ms =>
        rw [List.map_cons] at h2
        obtain ⟨rfl, rfl⟩ := List.cons.inj h2
        have g := numOf_some.2 ⟨(h1 n (List.mem_cons_self ..)).1, (h1 n (List.mem_cons_self ..)).2, rfl⟩
        rw [g, (mapM_num (ms.map Lib.itoa) ms).2 ⟨fun m hm => h1 m (List.mem_cons_of_mem _ hm), rfl⟩]
        rfl
theorem codeN_some {l : List UInt8} {ns : List Int} : codeN l = some ns ↔ Is l ns := by
  unfold codeN
  constructor
  · intro h
    split at h
    · have h2 := (mapM_num _ _).1 h
      exact h2.is (by have := congrArg List.length h2.2; simp at this; omega)
    · cases h
  · intro h
    have h2 := h.nums
    have h3 := congrArg List.length h2.2
    simp at h3
    rw [if_pos (by have := h.len6; omega)]
    exact (mapM_num _ _).2 h2
theorem codeN_none {l : List UInt8} : codeN l = none ↔ ∀ ns, ¬ Is l ns := by
  constructor
  · intro h ns hi
    rw [codeN_some.2 hi] at h
    cases h
  · intro h
    cases hc : codeN l with
    | none => rfl
    | some ns => exact absurd (codeN_some.1 hc) (h ns)
/-- The parent of a class code. -/
def par (s : ByteArray) : Option ByteArray :=
  match codeN (bs s) with
  | none => none
  | some ns => if 2 ≤ ns.length then some ⟨(textOf ns.dropLast).toArray⟩ else none
def depth (s : ByteArray) : Nat :=
  match codeN (bs s) with
  | none => 0
  | some ns => ns.length
theorem depth_le (s : ByteArray) : depth s ≤ 6 := by
  unfold depth
  split
  · omega
  · rename_i ns h
    exact (codeN_some.1 h).len6
theorem snoc_of {ns : List Int} (h : 2 ≤ ns.length) : ∃ ms n, ns = ms ++ [n] ∧ ms ≠ [] ∧ ns.dropLast = ms := by
  have hn : ns ≠ [] := by intro e; rw [e] at h; simp at h
  refine ⟨ns.dropLast, ns.getLast hn, (List.dropLast_concat_getLast hn).symm, ?_, rfl⟩
  intro e
  have := congrArg List.length e
  simp at this
  omega
theorem bs_text (l : List UInt8) : bs ⟨l.toArray⟩ = l := by simp [bs]
theorem par_some {s q : ByteArray} (h : par s = some q) : ∃ ms n, ms ≠ [] ∧ Is (bs s) (ms ++ [n]) ∧ q = ⟨(textOf ms).toArray⟩ ∧ Is (bs q) ms := by
  unfold par at h
  cases hc : codeN (bs s) with
  | none => rw [hc] at h; cases h
  | some ns =>
    rw [hc] at h
    simp only at h
    split at h
    · rename_i h2
      obtain ⟨ms, n, rfl, h0, hd⟩ := snoc_of h2
      obtain rfl := Option.some.inj h
      rw [hd]
      have hi := codeN_some.1 hc
      exact ⟨ms, n, h0, hi, rfl, by rw [bs_text]; exact (hi.parent h0).2.2⟩
    · cases h
theorem par_none {s : ByteArray} (h : par s = none) : ∀ ms n, ms ≠ [] → ¬ Is (bs s) (ms ++ [n]) := by
  intro ms n h0 hi
  unfold par at h
  rw [codeN_some.2 hi] at h
  have : 2 ≤ (ms ++ [n]).length := by
    have := List.length_pos_iff.2 h0
    simp
    omega
  simp only [if_pos this] at h
  cases h
theorem par_depth {s q : ByteArray} (h : par s = some q) : depth q + 1 = depth s := by
  obtain ⟨ms, n, h0, h1, h2, h3⟩ := par_some h
  unfold depth
  rw [codeN_some.2 h1, codeN_some.2 h3]
  simp
/-- A version has a class. -/
def has (l : List Pr) (s : ByteArray) : Bool := l.any fun x => decide (x.c = s)
theorem has_iff {l : List Pr} {s : ByteArray} : has l s = true ↔ ∃ x ∈ l, x.c = s := by
  unfold has
  rw [List.any_eq_true]
  simp
/-- The nearest class above. -/
def nearF (cs : List Pr) : Nat → ByteArray → Option ByteArray
  | 0, _ => none
  | n + 1, s => if has cs s = true then some s else
    match par s with
    | none => none
    | some q => nearF cs n q
def near (cs : List Pr) (s : ByteArray) : Option ByteArray := nearF cs 8 s
theorem nearF_has {cs : List Pr} : ∀ {n : Nat} {s r : ByteArray}, nearF cs n s = some r → has cs r = true
  | 0, _, _, h => by cases h
  | n + 1, s, r, h => by
    unfold nearF at h
    split at h
    · rename_i h1
      obtain rfl := Option.some.inj h
      exact h1
    · split at h
      · cases h
      · exact nearF_has h
/-- What becomes of a class in the next version. -/
def nxt (old new : Pln) (s : ByteArray) : Option ByteArray :=
  if has old.cs s = true then
    match new.ms.find? (fun m => decide (m.c = s)) with
    | some m => some m.t
    | none => near new.cs s
  else none
def cmpC (a b : ByteArray) : Int :=
  match codeN (bs a), codeN (bs b) with
  | some x, some y => cmpL x y
  | _, _ => 0
def incr : List ByteArray → Bool
  | [] => true
  | [_] => true
  | a :: b :: l => decide (cmpC a b < 0) && incr (b :: l)
def isC (s : ByteArray) : Bool := (codeN (bs s)).isSome
/-- The errors of a version's classes, of a step, of a version. -/
def clsE (cs : List Pr) : Int :=
  if (cs.any fun x => !isC x.c) = true then 3
  else if (cs.any fun x => !nameB (bs x.t)) = true then 4
  else if incr (cs.map (·.c)) = false then 5
  else if (cs.any fun x => match par x.c with | none => false | some q => !has cs q) = true then 7
  else 0
def stpE (old p : Pln) : Int :=
  if (p.ms.any fun m => !has old.cs m.c || !has p.cs m.t) = true then 7
  else if incr (p.ms.map (·.c)) = false then 5
  else if (old.cs.any fun x => (nxt old p x.c).isNone) = true then 24
  else 0
def vrsE (before : Option Pln) (n : Nat) (p : Pln) : Int :=
  if ¬ (p.v = (n : Int) + 1 ∧ 0 ≤ p.f ∧ p.f < p.u ∧ p.u ≤ 1048576) then 2
  else match before with
  | none => if 128 < p.cs.length ∨ 128 < p.ms.length then 8 else if clsE p.cs ≠ 0 then clsE p.cs else if 0 < p.ms.length then 1 else 0
  | some b => if p.f ≠ b.u then 16 else if 128 < p.cs.length ∨ 128 < p.ms.length then 8 else if clsE p.cs ≠ 0 then clsE p.cs else stpE b p
/-- The error of the version with an index. -/
def atE (l : List Pln) (i : Nat) : Int :=
  match l[i]? with
  | none => 0
  | some p => vrsE (if i = 0 then none else l[i - 1]?) i p
/-- What Check answers. -/
def ChkIs (l : List Pln) (I E : Int) : Prop :=
  (16 < l.length ∧ I = -1 ∧ E = 8) ∨ (l.length ≤ 16 ∧ (∀ i, i < l.length → atE l i = 0) ∧ I = -1 ∧ E = 0) ∨
    ∃ i : Nat, l.length ≤ 16 ∧ i < l.length ∧ (∀ j, j < i → atE l j = 0) ∧ atE l i = E ∧ E ≠ 0 ∧ I = i
theorem chk_ex (l : List Pln) : ∃ I E, ChkIs l I E := by
  by_cases h : 16 < l.length
  · exact ⟨-1, 8, Or.inl ⟨h, rfl, rfl⟩⟩
  by_cases h2 : ∀ i, i < l.length → atE l i = 0
  · exact ⟨-1, 0, Or.inr (Or.inl ⟨by omega, h2, rfl, rfl⟩)⟩
  · have : ∃ i, i < l.length ∧ atE l i ≠ 0 := by
      refine Classical.byContradiction fun k => h2 fun i hi => Classical.byContradiction fun g => k ⟨i, hi, g⟩
    obtain ⟨m, hm⟩ := this
    have : ∃ i, (i < l.length ∧ atE l i ≠ 0) ∧ ∀ j, j < i → ¬ (j < l.length ∧ atE l j ≠ 0) := by
      induction m using Nat.strongRecOn with
      | ind m ih =>
        by_cases k : ∃ j, j < m ∧ (j < l.length ∧ atE l j ≠ 0)
        · obtain ⟨j, j1, j2⟩ := k
          exact ih j j1 j2
        · exact ⟨m, hm, fun j hj hk => k ⟨j, hj, hk⟩⟩
    obtain ⟨i, ⟨i1, i2⟩, i3⟩ := this
    refine ⟨i, atE l i, Or.inr (Or.inr ⟨i, by omega, i1, fun j hj => ?_, rfl, i2, rfl⟩)⟩
    exact Classical.byContradiction fun g => i3 j hj ⟨by omega, g⟩
/-- A note: its name, its days, the day on which it was recorded. -/
structure Nt where
  s : ByteArray
  a : Int
  b : Int
  r : Int
def Nt.cells (x : Nt) : List Value := [.string x.s, .int .i64 x.a, .int .i64 x.b, .int .i64 x.r]
def ntC : List Nt → List Value
  | [] => []
  | x :: l => x.cells ++ ntC l
theorem ntC_len : ∀ l : List Nt, (ntC l).length = l.length * 4
  | [] => rfl
  | x :: l => by
    show (x.cells ++ ntC l).length = _
    rw [List.length_append, ntC_len l, List.length_cons]
    show 4 + _ = _
    omega
theorem ntC_snoc (x : Nt) : ∀ l : List Nt, ntC (l ++ [x]) = ntC l ++ x.cells
  | [] => by simp [ntC]
  | y :: l => by
    show y.cells ++ ntC (l ++ [x]) = (y.cells ++ ntC l) ++ x.cells
    rw [ntC_snoc x l, List.append_assoc]
theorem ntC_get : ∀ (l : List Nt) (i : Nat) (x : Nt), l[i]? = some x → ∀ j, j < 4 → (ntC l)[i * 4 + j]? = x.cells[j]?
  | [], i, x, h, j, hj => by simp at h
  | y :: l, 0, x, h, j, hj => by
    obtain rfl : y = x := by simpa using h
    show (y.cells ++ ntC l)[0 * 4 + j]? = _
    rw [List.getElem?_append_left (by show _ < 4; omega), Nat.zero_mul, Nat.zero_add]
  | y :: l, i + 1, x, h, j, hj => by
    show (y.cells ++ ntC l)[(i + 1) * 4 + j]? = _
    rw [List.getElem?_append_right (by show 4 ≤ _; omega)]
    show (ntC l)[(i + 1) * 4 + j - 4]? = _
    rw [show (i + 1) * 4 + j - 4 = i * 4 + j by omega]
    exact ntC_get l i x (by simpa using h) j hj

def NtAt (w : World) (b o : Nat) (x : Nt) : Prop := w.cell? ⟨b, o, none⟩ = some (.string x.s) ∧ w.cell? ⟨b, o + 1, none⟩ = some (.int .i64 x.a) ∧ w.cell? ⟨b, o + 2, none⟩ = some (.int .i64 x.b) ∧ w.cell? ⟨b, o + 3, none⟩ = some (.int .i64 x.r)
theorem NtAt.lt {w : World} {b o : Nat} {x : Nt} (h : NtAt w b o x) : b < w.heap.size := World.block_lt_of_cell? w _ h.1
theorem NtAt.below {w w' : World} {B b o : Nat} {x : Nt} (h : NtAt w b o x) (hb : Below B w w') (hB : b < B) : NtAt w' b o x :=
  ⟨(hb.cell (p := ⟨b, o, none⟩) hB).trans h.1, (hb.cell (p := ⟨b, o + 1, none⟩) hB).trans h.2.1, (hb.cell (p := ⟨b, o + 2, none⟩) hB).trans h.2.2.1, (hb.cell (p := ⟨b, o + 3, none⟩) hB).trans h.2.2.2⟩
theorem NtAt.next {w w' : World} {b o : Nat} {x : Nt} (h : NtAt w b o x) (hb : Below w.heap.size w w') : NtAt w' b o x := h.below hb h.lt
/-- A list of notes in memory. -/
def NtsAt (w : World) (p : Option Addr) (l : List Nt) : Prop := l = [] ∨ ∃ blk off, p = some ⟨blk, off, none⟩ ∧ ∀ i x, l[i]? = some x → NtAt w blk (off + i * 4) x
theorem NtsAt.next {w w' : World} {p : Option Addr} {l : List Nt} (h : NtsAt w p l) (hb : Below w.heap.size w w') : NtsAt w' p l := by
  rcases h with h | ⟨blk, off, hp, h⟩
  · exact Or.inl h
  · exact Or.inr ⟨blk, off, hp, fun i x hi => (h i x hi).next hb⟩
theorem NtsAt.get {w : World} {p : Option Addr} {l : List Nt} (h : NtsAt w p l) {i : Nat} {x : Nt} (hi : l[i]? = some x) : ∃ blk off, p = some ⟨blk, off, none⟩ ∧ NtAt w blk (off + i * 4) x := by
  rcases h with h | ⟨blk, off, hp, h⟩
  · subst h; simp at hi
  · exact ⟨blk, off, hp, h i x hi⟩
theorem nts_of_row {w : World} {B T : Nat} {v : Value} {l : List Nt} (h : w.ownsRow B T 4 v l.length (ntC l)) : ∃ p cap, v = .slice p l.length cap ∧ NtsAt w p l := by
  rcases Go.Joins.ownsRow_forms h with ⟨rfl, hn⟩ | ⟨g, cap, rfl⟩
  · have : l = [] := List.length_eq_zero_iff.1 hn
    subst this
    exact ⟨none, 0, rfl, Or.inl rfl⟩
  · refine ⟨_, cap, rfl, Or.inr ⟨g, 0, rfl, fun i x hi => ?_⟩⟩
    have z := fun j (hj : j < 4) => ntC_get l i x hi j hj
    have c := fun j v (hv : (ntC l)[j]? = some v) => h.cells (g := g) rfl j v hv
    have c2 : ∀ j v, (ntC l)[j]? = some v → w.cell? ⟨g, 0 + j, none⟩ = some v := fun j v hv => by
      have := c j v hv
      rwa [Addr.add_lit] at this
    exact ⟨c2 _ _ (z 0 (by omega)), by have := c2 _ _ (z 1 (by omega)); rwa [← Nat.add_assoc] at this, by have := c2 _ _ (z 2 (by omega)); rwa [← Nat.add_assoc] at this, by have := c2 _ _ (z 3 (by omega)); rwa [← Nat.add_assoc] at this⟩

def eqs (s : ByteArray) (x : Nt) : Bool := decide (x.s = s)
/-- The notes that are known on a day; those with a name among them. -/
def kn (l : List Nt) (d : Int) : List Nt := l.filter fun x => decide (x.r ≤ d)
def nm (l : List Nt) (s : ByteArray) (d : Int) : List Nt := l.filter fun x => eqs s x && decide (x.r ≤ d)
/-- One note's days end later than another's, or as late and begin later. -/
def gt2 (x m : Nt) : Bool := decide (m.b < x.b ∨ (m.b = x.b ∧ m.a < x.a))
def mx : Nt → List Nt → Nt
  | m, [] => m
  | m, x :: l => mx (if gt2 x m then x else m) l
def trig (l : List Nt) (s : ByteArray) (d : Int) : Option (Int × Int) :=
  match nm l s d with
  | [] => none
  | x :: t => some ((mx x t).a, (mx x t).b)
/-- The reference's step. -/
def rst (s : ByteArray) (acc : Option (Int × Int)) (x : Nt) : Option (Int × Int) :=
  if eqs s x = true then
    match acc with
    | none => some (x.a, x.b)
    | some (a, b) => if b < x.b ∨ (b = x.b ∧ a < x.a) then some (x.a, x.b) else some (a, b)
  else acc
theorem rst_some (s : ByteArray) : ∀ (t : List Nt) (m : Nt), t.foldl (rst s) (some (m.a, m.b)) = some ((mx m (t.filter (eqs s))).a, (mx m (t.filter (eqs s))).b)
  | [], m => rfl
  | x :: t, m => by
    rw [List.foldl_cons]
    by_cases h : eqs s x = true
    · rw [List.filter_cons_of_pos (p := eqs s) h]
      show List.foldl (rst s) (rst s (some (m.a, m.b)) x) t = _
      unfold rst
      rw [if_pos h]
      show List.foldl (rst s) (if m.b < x.b ∨ (m.b = x.b ∧ m.a < x.a) then some (x.a, x.b) else some (m.a, m.b)) t = some ((mx (if gt2 x m then x else m) (t.filter (eqs s))).a, (mx (if gt2 x m then x else m) (t.filter (eqs s))).b)
      by_cases g : m.b < x.b ∨ (m.b = x.b ∧ m.a < x.a)
      · rw [if_pos g, if_pos (show gt2 x m = true from decide_eq_true g)]
        exact rst_some s t x
      · rw [if_neg g, if_neg (by unfold gt2; rw [decide_eq_false g]; simp)]
        exact rst_some s t m
    · rw [List.filter_cons_of_neg (p := eqs s) h]
      unfold rst
      rw [if_neg h]
      exact rst_some s t m
theorem rst_none (s : ByteArray) : ∀ t : List Nt, t.foldl (rst s) none = (match t.filter (eqs s) with
    | [] => none
    | x :: u => some ((mx x u).a, (mx x u).b))
  | [] => rfl
  | x :: t => by
    rw [List.foldl_cons]
    by_cases h : eqs s x = true
    · rw [List.filter_cons_of_pos (p := eqs s) h]
      show List.foldl (rst s) (rst s none x) t = _
      rw [show rst s none x = some (x.a, x.b) by unfold rst; rw [if_pos h]]
      exact rst_some s t x
    · rw [List.filter_cons_of_neg (p := eqs s) h, show rst s none x = none by unfold rst; rw [if_neg h]]
      exact rst_none s t
theorem nm_kn (l : List Nt) (s : ByteArray) (d : Int) : nm l s d = (kn l d).filter (eqs s) := by
  unfold nm kn
  rw [List.filter_filter]
theorem trig_ref (l : List Nt) (s : ByteArray) (d : Int) : (kn l d).foldl (rst s) none = trig l s d := by
  rw [rst_none, ← nm_kn]
  rfl
theorem mx_ge : ∀ (t : List Nt) (m : Nt), m.b ≤ (mx m t).b ∧ ∀ x ∈ t, x.b ≤ (mx m t).b
  | [], m => ⟨Int.le_refl _, fun x hx => by cases hx⟩
  | y :: t, m => by
    obtain ⟨h1, h2⟩ := mx_ge t (if gt2 y m then y else m)
    have e : mx m (y :: t) = mx (if gt2 y m then y else m) t := rfl
    rw [e]
    by_cases g : gt2 y m = true
    · rw [if_pos g] at h1 h2 ⊢
      have g2 := of_decide_eq_true g
      refine ⟨by omega, fun x hx => ?_⟩
      rcases List.mem_cons.1 hx with rfl | k
      · exact h1
      · exact h2 x k
    · rw [if_neg g] at h1 h2 ⊢
      have g2 : ¬ (m.b < y.b ∨ (m.b = y.b ∧ m.a < y.a)) := fun k => g (decide_eq_true k)
      refine ⟨h1, fun x hx => ?_⟩
      rcases List.mem_cons.1 hx with rfl | k
      · omega
      · exact h2 x k
theorem mx_mem : ∀ (t : List Nt) (m : Nt), mx m t = m ∨ mx m t ∈ t
  | [], m => Or.inl rfl
  | y :: t, m => by
    have e : mx m (y :: t) = mx (if gt2 y m then y else m) t := rfl
    rw [e]
    by_cases g : gt2 y m = true
    · rw [if_pos g]
      rcases mx_mem t y with k | k
      · rw [k]; exact Or.inr (List.mem_cons_self ..)
      · exact Or.inr (List.mem_cons_of_mem _ k)
    · rw [if_neg g]
      rcases mx_mem t m with k | k
      · exact Or.inl k
      · exact Or.inr (List.mem_cons_of_mem _ k)
theorem mem_nm {l : List Nt} {s : ByteArray} {d : Int} {x : Nt} : x ∈ nm l s d ↔ x ∈ l ∧ x.s = s ∧ x.r ≤ d := by
  unfold nm
  rw [List.mem_filter]
  simp [eqs]
/-- What a trigger is: nothing, or the days of a note with the name; none ends later. -/
theorem trig_is (l : List Nt) (s : ByteArray) (d : Int) : (trig l s d = none ∧ ∀ x ∈ l, x.s = s → ¬ x.r ≤ d) ∨ ∃ a b, trig l s d = some (a, b) ∧ (∃ x ∈ l, x.s = s ∧ x.r ≤ d ∧ x.a = a ∧ x.b = b) ∧ ∀ x ∈ l, x.s = s → x.r ≤ d → x.b ≤ b := by
  unfold trig
  cases h : nm l s d with
  | nil =>
    refine Or.inl ⟨rfl, fun x hx hs hr => ?_⟩
    have := (mem_nm (d := d) (s := s)).2 ⟨hx, hs, hr⟩
    rw [h] at this
    cases this
  | cons y t =>
    refine Or.inr ⟨_, _, rfl, ?_, fun x hx hs hr => ?_⟩
    · have hm : mx y t ∈ nm l s d := by
        rw [h]
        rcases mx_mem t y with k | k
        · rw [k]; exact List.mem_cons_self ..
        · exact List.mem_cons_of_mem _ k
      obtain ⟨h1, h2, h3⟩ := mem_nm.1 hm
      exact ⟨mx y t, h1, h2, h3, rfl, rfl⟩
    · have hm := (mem_nm (d := d) (s := s)).2 ⟨hx, hs, hr⟩
      rw [h] at hm
      have := mx_ge t y
      rcases List.mem_cons.1 hm with rfl | k
      · exact this.1
      · exact this.2 x k

end Go.Proofs.YtbjbioiggjhknaaDoor
