/-
  The days on which a piece of two timelines begins or has ended, in order. No statement of the seat is proved here.
-/
import Derived.Test.YtcgjhbjbfdbfaaaRe
import Derived.Maps.OwnSet
import Derived.Lib.SlKeysI
namespace Go.Proofs.Ytcgjhbjbfdbfaaa
open Go.RowKit Go.Maps

/-- The keys that k pieces store, behind others. -/
def ksFrom (pre : List Lit) (F U : Nat → Int) : Nat → List Lit
  | 0 => pre
  | k + 1 => (ksFrom pre F U k ++ [.int .i64 (F k)]) ++ [.int .i64 (U k)]
abbrev yes : DataW Unit := .lit (.bool true)

theorem own_base {w : World} {base base' : Nat} {e : TypeId} {size : Nat} {v : Value} {k : Nat} {xs : List Value} (h : w.ownsRow base e size v k xs) (hb : base' ≤ base) : w.ownsRow base' e size v k xs := by
  obtain ⟨h1, h2⟩ := h
  refine ⟨h1, h2.imp id ?_⟩
  rintro ⟨g, c, cur, r1, r2, r⟩
  exact ⟨g, c, cur, r1, by omega, r⟩
theorem addKey_len (xs : List Lit) : ∀ L : List Lit, (xs.foldl addKey L).length ≤ L.length + xs.length := by
  induction xs with
  | nil => intro L; simp
  | cons x r ih =>
    intro L
    have := ih (addKey L x)
    have h2 : (addKey L x).length ≤ L.length + 1 := by
      unfold addKey
      split <;> simp
    simp only [List.foldl_cons, List.length_cons]
    omega
theorem ksFrom_len (pre : List Lit) (F U : Nat → Int) : ∀ k, (ksFrom pre F U k).length = pre.length + (k + k) := by
  intro k
  induction k with
  | zero => rfl
  | succ k ih => simp only [ksFrom, List.length_append, ih, List.length_cons, List.length_nil]; omega
theorem ksFrom_mem (pre : List Lit) (F U : Nat → Int) (x : Lit) : ∀ k, x ∈ ksFrom pre F U k ↔ x ∈ pre ∨ ∃ i, i < k ∧ (x = .int .i64 (F i) ∨ x = .int .i64 (U i)) := by
  intro k
  induction k with
  | zero => exact ⟨Or.inl, fun h => h.elim id (fun ⟨i, hi, _⟩ => absurd hi (by omega))⟩
  | succ k ih =>
    simp only [ksFrom, List.mem_append, ih, List.mem_singleton]
    constructor
    · rintro (((h | ⟨i, hi, h⟩) | h) | h)
      · exact Or.inl h
      · exact Or.inr ⟨i, by omega, h⟩
      · exact Or.inr ⟨k, by omega, Or.inl h⟩
      · exact Or.inr ⟨k, by omega, Or.inr h⟩
    · rintro (h | ⟨i, hi, h⟩)
      · exact Or.inl (Or.inl (Or.inl h))
      · rcases (show i < k ∨ i = k by omega) with c | c
        · exact Or.inl (Or.inl (Or.inr ⟨i, c, h⟩))
        · subst c
          rcases h with h | h
          · exact Or.inl (Or.inr h)
          · exact Or.inr h
theorem ks_keys (F U : Nat → Int) (n : Nat) (G H : Nat → Int) (m : Nat) : ∀ x ∈ ksFrom (ksFrom [] F U n) G H m, WideAt.IsKeyLit x := by
  intro x hx
  rw [ksFrom_mem, ksFrom_mem] at hx
  rcases hx with (h | ⟨i, _, h | h⟩) | ⟨i, _, h | h⟩
  · cases h
  all_goals subst h; trivial
/-- A day on which a piece of two lists begins or has ended. -/
def Bd (n : Nat) (F U : Nat → Int) (m : Nat) (G H : Nat → Int) (x : Int) : Prop := (∃ i, i < n ∧ (x = F i ∨ x = U i)) ∨ ∃ i, i < m ∧ (x = G i ∨ x = H i)
theorem ks_has (F U : Nat → Int) (n : Nat) (G H : Nat → Int) (m : Nat) (x : Int) : Maps.has (setOf yes (ksFrom (ksFrom [] F U n) G H m)) (.int .i64 x) = true ↔ Bd n F U m G H x := by
  rw [has_setOf _ _ _ (ks_keys F U n G H m), List.any_eq_true]
  have key : ∀ z : Int, (Lit.int .i64 z).sameKey (.int .i64 x) = true ↔ x = z := fun z => by
    simp only [Lit.sameKey, decide_eq_true_eq, true_and]
    exact eq_comm
  constructor
  · rintro ⟨y, hy, hs⟩
    rw [ksFrom_mem, ksFrom_mem] at hy
    rcases hy with (h | ⟨i, hi, h | h⟩) | ⟨i, hi, h | h⟩
    · cases h
    · subst h; exact Or.inl ⟨i, hi, Or.inl ((key _).1 hs)⟩
    · subst h; exact Or.inl ⟨i, hi, Or.inr ((key _).1 hs)⟩
    · subst h; exact Or.inr ⟨i, hi, Or.inl ((key _).1 hs)⟩
    · subst h; exact Or.inr ⟨i, hi, Or.inr ((key _).1 hs)⟩
  · intro h
    refine ⟨.int .i64 x, ?_, (key x).2 rfl⟩
    rw [ksFrom_mem, ksFrom_mem]
    rcases h with ⟨i, hi, h | h⟩ | ⟨i, hi, h | h⟩
    · exact Or.inl (Or.inr ⟨i, hi, Or.inl (by rw [h])⟩)
    · exact Or.inl (Or.inr ⟨i, hi, Or.inr (by rw [h])⟩)
    · exact Or.inr ⟨i, hi, Or.inl (by rw [h])⟩
    · exact Or.inr ⟨i, hi, Or.inr (by rw [h])⟩
theorem keys_facts {R : Value → Option (DataW Unit × List MemPlace)} {w : World} {b n : Nat} {D : DataW Unit} (hown : w.ownsMap Try.prog 3 R b n D) : (intKeys D).Nodup ∧ ∀ x, x ∈ intKeys D ↔ Maps.has D (.int .i64 x) = true := by
  obtain ⟨es, hD, hpw, _⟩ := hown.entries (int_keyed Try.underlying3)
  obtain ⟨es', hD', hko⟩ := hown.keysOf
  obtain rfl : es = es' := by rw [hD] at hD'; simpa using hD'
  subst hD
  have hk : ∀ p ∈ es, ∃ x, p.1 = .int .i64 x := fun p hp => by
    obtain ⟨v, hv⟩ := hko p hp
    obtain ⟨x, _, hx, _⟩ := Maps.keyOf_i64 Try.underlying3 hv
    exact ⟨x, hx⟩
  constructor
  · show (es.map fun p => Go.intOf p.1).Nodup
    refine List.pairwise_map.2 (hpw.imp_of_mem fun {p q} hp' hq' hne e => hne ?_)
    obtain ⟨a, ha⟩ := hk p hp'
    obtain ⟨b, hb⟩ := hk q hq'
    rw [ha, hb] at e ⊢
    exact congrArg _ e
  · intro x
    rw [Maps.has_eq, List.any_eq_true]
    show x ∈ es.map (fun p => Go.intOf p.1) ↔ _
    rw [List.mem_map]
    constructor
    · rintro ⟨p, hp', rfl⟩
      obtain ⟨a, ha⟩ := hk p hp'
      exact ⟨p, hp', by rw [ha]; simp [Lit.sameKey, Go.intOf]⟩
    · rintro ⟨p, hp', hs⟩
      obtain ⟨a, ha⟩ := hk p hp'
      rw [ha] at hs
      exact ⟨p, hp', by rw [ha]; simpa [Lit.sameKey, Go.intOf] using hs⟩

/-- What slices.Sorted answers for the keys of a map. -/
def SortsKeys : Prop := ∀ (b nn : Nat) (D0 : DataW Unit) (w : World), w.ownsMap Try.prog 3 (plainElem Try.prog 4) b nn D0 → Maps.size D0 ≤ maxLen → Maps.size D0 * 8 ≤ 140737488355328 →
  Calls Try.prog 57 #[.map (some b)] w (fun e w' => e = .returned (.func (.func 61) #[] #[.pointer (some ⟨w.heap.size, 0, none⟩)]) ∧ w' = w.alloc (.cells #[.map (some b)] 74)) ∧
  Calls Try.prog 56 #[.func (.func 61) #[] #[.pointer (some ⟨w.heap.size, 0, none⟩)]] (w.alloc (.cells #[.map (some b)] 74)) fun e w' => ∃ (v : Value) (ss : List Int), e = .returned v ∧ ss.Perm (intKeys D0) ∧
    w'.ownsRow (w.heap.size + 1) 3 1 v ss.length ((ss.mergeSort (fun x y => decide (x ≤ y))).map (Value.int .i64)) ∧ Below (w.heap.size + 1) (w.alloc (.cells #[.map (some b)] 74)) w'

theorem ix75_0 (p q : Option Addr) (n c m d : Nat) (w : World) : (Instr.index 75 (.agg #[.slice p n c, .slice q m d]) (.int .i64 0)).run Try.prog w = .ok (.slice p n c) w := by kernel_rfl
theorem ix75_1 (p q : Option Addr) (n c m d : Nat) (w : World) : (Instr.index 75 (.agg #[.slice p n c, .slice q m d]) (.int .i64 1)).run Try.prog w = .ok (.slice q m d) w := by kernel_rfl

def iv : Value → Nat
  | .int _ k => k.toNat
  | _ => 0

set_option maxRecDepth 100000 in
set_option maxHeartbeats 8000000 in
theorem boundsOf_raw (SK : SortsKeys) (p : Option Addr) (n cap : Nat) (F U V : Nat → Int) (q : Option Addr) (m capq : Nat) (G H I : Nat → Int) (w : World) (hP : PcsAt w p n F U V) (hQ : PcsAt w q m G H I) (hn : (n : Int) ≤ 2000) (hm : (m : Int) ≤ 2000)
    (hs : ∀ i, i < n → spn (F i) (U i)) (ht : ∀ i, i < m → spn (G i) (H i)) :
    Calls Try.prog 51 #[.slice p n cap, .slice q m capq] w fun e w' => ∃ (v : Value) (ss : List Int), e = .returned v ∧ ss.Nodup ∧ (∀ x, x ∈ ss ↔ Bd n F U m G H x) ∧ ss.length ≤ n + n + (m + m) ∧
      w'.ownsRow w.heap.size 3 1 v ss.length ((ss.mergeSort (fun x y => decide (x ≤ y))).map (Value.int .i64)) ∧ Below w.heap.size w w' := by
  have HP := Lib.hid hP; have HQ := Lib.hid hQ; have HS := Lib.hid hs; have HT := Lib.hid ht
  have hmm := @run_makeMap Try.prog
  have hx0 := fun w => ix75_0 p q n cap m capq w
  have hx1 := fun w => ix75_1 p q n cap m capq w
  have B0 : Hid (Below w.heap.size w (w.alloc (.map #[] 0))) := (Below.refl _ _).alloc (Nat.le_refl _) _
  have M0 : Hid ((w.alloc (.map #[] 0)).ownsMap Try.prog 3 (plainElem (H := Unit) Try.prog 4) w.heap.size 0 (.map [])) := World.ownsMap_made _ _ _ _
  clear hP hQ hs ht
  go_enter Try.func51, Try.ntmps51
  go_wp2
  refine wp_loop_rounds 3 ?_
  rw [rounds_succ]
  go_wp2
  go_loopw [19] (fun i wr => ∃ k : Nat, k ≤ n ∧ i = .int .i64 k ∧ wr.ownsMap Try.prog 3 (plainElem (H := Unit) Try.prog 4) w.heap.size (0 + (k + k)) (setOf yes (ksFrom [] F U k)) ∧ Below w.heap.size w wr ∧ w.heap.size < wr.heap.size) (fun i _ => n - iv i)
  case atStart => exact ⟨0, Nat.zero_le _, rfl, M0.out, B0.out, (by simp)⟩
  case round =>
    obtain ⟨k, hk, rfl, hM, hB, hlt⟩ := hrel
    have NM := Lib.hid hM; have NB := Lib.hid hB
    by_cases hkn : k < n
    · obtain ⟨blk, off, rfl, hpc⟩ := HP.out.get hkn
      have PW := Lib.hid (hpc.below hB hpc.lt)
      have hkd : decide ((k : Int) < (n : Int)) = true := by simp; omega
      have q0 := PW.out.1; have q1 := PW.out.2.1; have q2 := PW.out.2.2
      have zb := PW.out.lt
      have sp := HS.out k hkn
      have X0 := Lib.hid (Pc.new wr (F k) (U k) (V k) 47)
      have MA := Lib.hid (NM.out.alloc (.cells #[.int .i64 (F k), .int .i64 (U k), .int .i64 (V k)] 47))
      have BA : Hid (Below w.heap.size w (wr.alloc (.cells #[.int .i64 (F k), .int .i64 (U k), .int .i64 (V k)] 47))) := NB.out.alloc NB.out.size _
      clear hM hB hpc
      go_wp2_with (first
        | (at_mapUpdate; refine wpList_mapUpdate_own _ rfl (.tmp 23) (.tmp 26) _ _ rfl 3 4 (int_keyed Try.underlying3) Try.underlying74 _ w.heap.size _ _ rfl MA.out (by unfold maxLen; omega) _ _ _ rfl rfl (keyOf_int_mk Try.underlying3 (WalkArith.wf_i64 (by omega))) _ [] (plainElem_bool Try.underlying4 true) ?_; intro w1 hown1 hgrow1; have x1 := hgrow1.cell X0.out.2.1 (by intro e; have := Option.some.inj e; simp at this; omega))
        | (at_mapUpdate; refine wpList_mapUpdate_own _ rfl (.tmp 27) (.tmp 30) _ _ rfl 3 4 (int_keyed Try.underlying3) Try.underlying74 _ w.heap.size _ _ rfl hown1 (by unfold maxLen; omega) _ _ _ rfl rfl (keyOf_int_mk Try.underlying3 (WalkArith.wf_i64 (by omega))) _ [] (plainElem_bool Try.underlying4 true) ?_; intro w2 hown2 hgrow2))
      go_roundw
      case rel =>
        refine ⟨k + 1, by omega, by go_num, ?_, (BA.out.grown hgrow1 BA.out.size (fun j hj => by cases hj; exact Nat.le_refl _)).grown hgrow2 (Nat.le_trans BA.out.size hgrow1.size) (fun j hj => by cases hj; exact Nat.le_refl _), ?_⟩
        · rw [ksFrom, setOf_snoc, setOf_snoc]
          exact hown2.mono (by omega)
        · have h1 := hgrow1.size; have h2 := hgrow2.size
          simp at h1
          omega
      case measure => simp only [iv]; omega
    · obtain rfl : k = n := by omega
      have hkd : decide ((k : Int) < (k : Int)) = false := by simp
      clear hM hB
      go_wp2
      rw [rounds_succ]
      go_wp2
      go_loopw [19] (fun i wr => ∃ l : Nat, l ≤ m ∧ i = .int .i64 l ∧ wr.ownsMap Try.prog 3 (plainElem (H := Unit) Try.prog 4) w.heap.size ((0 + (k + k)) + (l + l)) (setOf yes (ksFrom (ksFrom [] F U k) G H l)) ∧ Below w.heap.size w wr ∧ w.heap.size < wr.heap.size) (fun i _ => m - iv i)
      case atStart => exact ⟨0, Nat.zero_le _, rfl, NM.out, NB.out, hlt⟩
      case round =>
        obtain ⟨l, hl, rfl, hM, hB, hlt⟩ := hrel
        have NM2 := Lib.hid hM; have NB2 := Lib.hid hB
        by_cases hln : l < m
        · obtain ⟨blk, off, rfl, hpc⟩ := HQ.out.get hln
          have PW := Lib.hid (hpc.below hB hpc.lt)
          have hkd : decide ((l : Int) < (m : Int)) = true := by simp; omega
          have q0 := PW.out.1; have q1 := PW.out.2.1; have q2 := PW.out.2.2
          have zb := PW.out.lt
          have sp := HT.out l hln
          have X0 := Lib.hid (Pc.new wr (G l) (H l) (I l) 47)
          have MA := Lib.hid (NM2.out.alloc (.cells #[.int .i64 (G l), .int .i64 (H l), .int .i64 (I l)] 47))
          have BA : Hid (Below w.heap.size w (wr.alloc (.cells #[.int .i64 (G l), .int .i64 (H l), .int .i64 (I l)] 47))) := NB2.out.alloc NB2.out.size _
          clear hM hB hpc
          go_wp2_with (first
            | (at_mapUpdate; refine wpList_mapUpdate_own _ rfl (.tmp 23) (.tmp 26) _ _ rfl 3 4 (int_keyed Try.underlying3) Try.underlying74 _ w.heap.size _ _ rfl MA.out (by unfold maxLen; omega) _ _ _ rfl rfl (keyOf_int_mk Try.underlying3 (WalkArith.wf_i64 (by omega))) _ [] (plainElem_bool Try.underlying4 true) ?_; intro w1 hown1 hgrow1; have x1 := hgrow1.cell X0.out.2.1 (by intro e; have := Option.some.inj e; simp at this; omega))
            | (at_mapUpdate; refine wpList_mapUpdate_own _ rfl (.tmp 27) (.tmp 30) _ _ rfl 3 4 (int_keyed Try.underlying3) Try.underlying74 _ w.heap.size _ _ rfl hown1 (by unfold maxLen; omega) _ _ _ rfl rfl (keyOf_int_mk Try.underlying3 (WalkArith.wf_i64 (by omega))) _ [] (plainElem_bool Try.underlying4 true) ?_; intro w2 hown2 hgrow2))
          go_roundw
          case rel =>
            refine ⟨l + 1, by omega, by go_num, ?_, (BA.out.grown hgrow1 BA.out.size (fun j hj => by cases hj; exact Nat.le_refl _)).grown hgrow2 (Nat.le_trans BA.out.size hgrow1.size) (fun j hj => by cases hj; exact Nat.le_refl _), ?_⟩
            · rw [ksFrom, setOf_snoc, setOf_snoc]
              exact hown2.mono (by omega)
            · have h1 := hgrow1.size; have h2 := hgrow2.size
              simp at h1
              omega
          case measure => simp only [iv]; omega
        · obtain rfl : l = m := by omega
          have hkd : decide ((l : Int) < (l : Int)) = false := by simp
          clear hM hB
          have SZ : Hid (Maps.size (setOf yes (ksFrom (ksFrom [] F U k) G H l)) ≤ k + k + (l + l)) := by
            show _ ≤ _
            rw [size_setOf _ _ (ks_keys F U k G H l)]
            have := addKey_len (ksFrom (ksFrom [] F U k) G H l) []
            rw [ksFrom_len, ksFrom_len] at this
            simp only [List.length_nil] at this
            omega
          have KF := Lib.hid (keys_facts NM2.out)
          have KL : Hid ((intKeys (setOf yes (ksFrom (ksFrom [] F U k) G H l))).length = Maps.size (setOf yes (ksFrom (ksFrom [] F U k) G H l))) := by
            obtain ⟨es, hD, _⟩ := NM2.out.entries (int_keyed Try.underlying3)
            show _ = _
            rw [hD]
            exact List.length_map _
          have z2 := NB2.out.size
          go_wp2
          rw [rounds_succ]
          go_wp2_with fail
          obtain ⟨SK1, SK2⟩ := SK w.heap.size _ _ _ NM2.out (by have := SZ.out; unfold maxLen; omega) (by have := SZ.out; omega)
          refine SK1.mono ?_
          rintro e w3 ⟨rfl, rfl⟩
          go_wp2_with fail
          refine SK2.mono ?_
          rintro e w4 ⟨v, ss, rfl, h1, h2, h3⟩
          go_wp2_with fail
          go_ret
          exact ⟨v, ss, rfl, h1.nodup_iff.2 KF.out.1, fun x => (h1.mem_iff.trans (KF.out.2 x)).trans (ks_has F U k G H l x), by rw [h1.length_eq]; exact SZ.out |> (fun h => by rw [KL.out]; exact h), own_base h2 (by omega), NB2.out.trans (((Below.refl _ _).alloc z2 _).trans (h3.mono (by omega)))⟩

end Go.Proofs.Ytcgjhbjbfdbfaaa
