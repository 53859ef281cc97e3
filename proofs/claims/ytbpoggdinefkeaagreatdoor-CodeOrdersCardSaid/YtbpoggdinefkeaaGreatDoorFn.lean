/-
  Free in one form; Few and Contains for any lists of strings. No statement of the seat is proved here.
-/
import Derived.Test.YtbpoggdinefkeaaGreatDoorFr
import Derived.Test.YtbpoggdinefkeaaGreatDoorSi
namespace Go.Proofs.YtbpoggdinefkeaaGreatDoor
open Go Go.RowKit Go.Shelf

/-- What Free answers. -/
def FreeR (tk : List (List UInt8)) (ab : List UInt8) (X : ByteArray) (E : Int) : Prop :=
  (E = 3 ∧ X = ⟨#[]⟩ ∧ ((∃ t ∈ tk, ∀ ns, ¬ Is t ns) ∨ ((∀ t ∈ tk, ∃ ns, Is t ns) ∧ ab ≠ [] ∧ ∀ ns, ¬ Is ab ns))) ∨
  ((∀ t ∈ tk, ∃ ns, Is t ns) ∧ ∃ ns, ((ab = [] ∧ ns = []) ∨ Is ab ns) ∧
    ((E = 12 ∧ X = ⟨#[]⟩ ∧ (ns.length = 6 ∨ ∀ n : Nat, 1 ≤ n → n < 1000 → textOf (ns ++ [(n : Int)]) ∈ tk)) ∨
     (E = 0 ∧ ns.length < 6 ∧ ∃ m : Nat, 1 ≤ m ∧ m < 1000 ∧ X = ⟨(textOf (ns ++ [(m : Int)])).toArray⟩ ∧ textOf (ns ++ [(m : Int)]) ∉ tk ∧ ∀ n : Nat, 1 ≤ n → n < m → textOf (ns ++ [(n : Int)]) ∈ tk)))

theorem child_of {ns : List Int} {tk : List (List UInt8)} (hg : GoodN ns) (h6 : ns.length < 6) (w0 : World) (hE : Env w0) :
    ∃ X E, ((E = 12 ∧ X = ⟨#[]⟩ ∧ (ns.length = 6 ∨ ∀ n : Nat, 1 ≤ n → n < 1000 → textOf (ns ++ [(n : Int)]) ∈ tk)) ∨
     (E = 0 ∧ ns.length < 6 ∧ ∃ m : Nat, 1 ≤ m ∧ m < 1000 ∧ X = ⟨(textOf (ns ++ [(m : Int)])).toArray⟩ ∧ textOf (ns ++ [(m : Int)]) ∉ tk ∧ ∀ n : Nat, 1 ≤ n → n < m → textOf (ns ++ [(n : Int)]) ∈ tk)) ∧
    ∀ (w1 : World) (p : Option Addr) (cap b nn : Nat), Below w0.heap.size w0 w1 → w1.ownsRow w0.heap.size 3 1 (.slice p ns.length cap) ns.length (ints ns) → SetB w1 b nn tk →
      Calls Tryz.prog 29 #[.slice p ns.length cap, .map (some b)] w1 fun e w' => e = .returned (.tuple #[.string X, .int .i64 E]) ∧ Below w0.heap.size w0 w' := by
  obtain ⟨m, h1, h2, h3⟩ := first_not (fun j => textOf (ns ++ [((j + 1 : Nat) : Int)]) ∈ tk) 999
  have hin : ∀ n : Nat, 1 ≤ n → n < m + 1 → textOf (ns ++ [(n : Int)]) ∈ tk := fun n a b => by
    have := h2 (n - 1) (by omega)
    rwa [show n - 1 + 1 = n by omega] at this
  by_cases e : m = 999
  · subst e
    refine ⟨⟨#[]⟩, 12, .inl ⟨rfl, rfl, .inr hin⟩, fun w1 p cap b nn hb hr hs => ?_⟩
    exact child_loop p ns.length cap b nn 1000 ns tk _ w0 w1 hE hb rfl h6 hg hr hs (by omega) (by omega) hin (.inl ⟨rfl, rfl⟩)
  · have hm : textOf (ns ++ [((m + 1 : Nat) : Int)]) ∉ tk := by
      rcases h3 with h3 | h3
      · exact absurd h3 e
      · exact h3
    refine ⟨_, 0, .inr ⟨rfl, h6, m + 1, by omega, by omega, rfl, hm, hin⟩, fun w1 p cap b nn hb hr hs => ?_⟩
    exact child_loop p ns.length cap b nn (m + 1) ns tk _ w0 w1 hE hb rfl h6 hg hr hs (by omega) (by omega) hin (.inr ⟨by omega, hm, rfl⟩)

theorem mem_bs {taken : List ByteArray} {t : List UInt8} (h : t ∈ taken.map bs) : ∃ j, j < taken.length ∧ t = bs (taken.getD j emp) := by
  obtain ⟨x, hx, rfl⟩ := List.mem_map.1 h
  obtain ⟨j, hj, rfl⟩ := List.getElem_of_mem hx
  exact ⟨j, hj, by simp [List.getD, hj]⟩
theorem bs_mem {taken : List ByteArray} {j : Nat} (h : j < taken.length) : bs (taken.getD j emp) ∈ taken.map bs := by
  refine List.mem_map.2 ⟨taken[j], List.getElem_mem h, by simp [List.getD, h]⟩

/-- What Free answers is settled, and it answers it. -/
theorem Free_any (taken : List ByteArray) (above : ByteArray) (w : World) (hE : Env w) (hn : taken.length ≤ 1024) (hs : ∀ x ∈ taken, x.size ≤ 1000000000000) (ha : above.size ≤ 1000000000000) :
    ∃ X E, FreeR (taken.map bs) (bs above) X E ∧ ∀ (p : Option Addr) (n cap : Nat), taken.length = n → StrsAt w p taken →
      Calls Tryz.prog 10 #[.slice p n cap, .string above] w fun e w' => e = .returned (.tuple #[.string X, .int .i64 E]) ∧ Below w.heap.size w w' := by
  obtain ⟨m, h1, h2, h3⟩ := first_not (fun j => ∃ ns, Is (bs (taken.getD j emp)) ns) taken.length
  by_cases e : m = taken.length
  · subst e
    have hall : ∀ t ∈ taken.map bs, ∃ ns, Is t ns := fun t ht => by
      obtain ⟨j, hj, rfl⟩ := mem_bs ht
      exact h2 j hj
    by_cases hno : bs above ≠ [] ∧ ∀ ns, ¬ Is (bs above) ns
    · refine ⟨⟨#[]⟩, 3, .inl ⟨rfl, rfl, .inr ⟨hall, hno⟩⟩, fun p n cap hl hA => ?_⟩
      subst hl
      exact Free_loop p _ cap _ taken above _ _ w hE rfl hn hA hs ha (Nat.le_refl _) h2 (.inr ⟨rfl, .inl ⟨hno.1, hno.2, rfl⟩⟩)
    · obtain ⟨ns, hns⟩ : ∃ ns, (bs above = [] ∧ ns = []) ∨ Is (bs above) ns := by
        by_cases h0 : bs above = []
        · exact ⟨[], .inl ⟨h0, rfl⟩⟩
        · obtain ⟨ns, k⟩ := Classical.not_forall_not.1 (fun k => hno ⟨h0, k⟩)
          exact ⟨ns, .inr k⟩
      have hg : GoodN ns := by
        rcases hns with ⟨_, rfl⟩ | h
        · exact fun _ h => by cases h
        · exact h.1.2.2
      have hl6 : ns.length ≤ 6 := by
        rcases hns with ⟨_, rfl⟩ | h
        · simp
        · exact h.1.2.1
      by_cases h6 : ns.length = 6
      · refine ⟨⟨#[]⟩, 12, .inr ⟨hall, ns, hns, .inl ⟨rfl, rfl, .inl h6⟩⟩, fun p n cap hl hA => ?_⟩
        subst hl
        refine Free_loop p _ cap _ taken above _ _ w hE rfl hn hA hs ha (Nat.le_refl _) h2 (.inr ⟨rfl, .inr ⟨ns, hns, fun w1 q c b nn hb _ _ => ?_⟩⟩)
        rw [h6]
        exact (child_full q c b w1).mono fun e w' ⟨k1, k2⟩ => ⟨k1, by rw [← k2]; exact hb⟩
      · obtain ⟨X, E, k1, k2⟩ := child_of (tk := taken.map bs) hg (by omega) w hE
        refine ⟨X, E, .inr ⟨hall, ns, hns, k1⟩, fun p n cap hl hA => ?_⟩
        subst hl
        exact Free_loop p _ cap _ taken above _ _ w hE rfl hn hA hs ha (Nat.le_refl _) h2 (.inr ⟨rfl, .inr ⟨ns, hns, k2⟩⟩)
  · have hm : m < taken.length := by omega
    have hbad : ∀ ns, ¬ Is (bs (taken.getD m emp)) ns := by
      rcases h3 with h3 | h3
      · exact absurd h3 e
      · exact fun ns k => h3 ⟨ns, k⟩
    refine ⟨⟨#[]⟩, 3, .inl ⟨rfl, rfl, .inl ⟨_, bs_mem hm, hbad⟩⟩, fun p n cap hl hA => ?_⟩
    subst hl
    exact Free_loop p _ cap m taken above _ _ w hE rfl hn hA hs ha h1 h2 (.inl ⟨hm, hbad, rfl⟩)

theorem mem_iff (x : ByteArray) (taken : List ByteArray) : x ∈ taken ↔ bs x ∈ taken.map bs := by
  constructor
  · exact fun h => List.mem_map.2 ⟨x, h, rfl⟩
  · intro h
    obtain ⟨y, hy, e⟩ := List.mem_map.1 h
    have : y = x := by rw [← mk_bs y, ← mk_bs x, e]
    exact this ▸ hy
/-- What Few answers. -/
def few (l : List ByteArray) : Bool := decide (¬ ((30 < l.length ∧ l.length ≤ 1024) ∨ 1034 < l.length) ∧ ∀ x ∈ l, x.size ≤ 100)

set_option maxRecDepth 100000 in
theorem Few_any (p : Option Addr) (n cap : Nat) (l : List ByteArray) (w : World) (hl : l.length = n) (hb : n ≤ 9223372036854775807) (hA : StrsAt w p l) :
    Calls Tryz.prog 7 #[.slice p n cap] w fun e w' => e = .returned (.bool (few l)) ∧ w' = w := by
  obtain ⟨R, hR⟩ : ∃ R, R = few l := ⟨_, rfl⟩
  rw [← hR]
  rcases (show (30 < n ∧ n ≤ 1024) ∨ 1034 < n ∨ n ≤ 30 ∨ (1024 < n ∧ n ≤ 1034) by omega) with h | h | h
  · have d1 : decide ((n : Int) > 30) = true := by rw [decide_eq_true_iff]; omega
    have d2 : decide ((n : Int) ≤ 1024) = true := by rw [decide_eq_true_iff]; omega
    obtain rfl : R = false := by rw [hR]; unfold few; rw [decide_eq_false_iff_not]; omega
    clear hR
    go_enter Tryz.func7, Tryz.ntmps7
    go_wp2
    go_ret
    exact ⟨rfl, rfl⟩
  · have d1 : decide ((n : Int) > 30) = true := by rw [decide_eq_true_iff]; omega
    have d2 : decide ((n : Int) ≤ 1024) = false := by rw [decide_eq_false_iff_not]; omega
    have d3 : decide ((n : Int) > 1034) = true := by rw [decide_eq_true_iff]; omega
    obtain rfl : R = false := by rw [hR]; unfold few; rw [decide_eq_false_iff_not]; omega
    clear hR
    go_enter Tryz.func7, Tryz.ntmps7
    go_wp2
    go_ret
    exact ⟨rfl, rfl⟩
  · have hcond : ∃ c, decide ((n : Int) > 30) = c ∧ (c = true → decide ((n : Int) ≤ 1024) = false) := by
      rcases h with h | h
      · exact ⟨false, by rw [decide_eq_false_iff_not]; omega, fun h => by cases h⟩
      · exact ⟨true, by rw [decide_eq_true_iff]; omega, fun _ => by rw [decide_eq_false_iff_not]; omega⟩
    obtain ⟨c, d1, d2⟩ := hcond
    have d3 : decide ((n : Int) > 1034) = false := by rw [decide_eq_false_iff_not]; omega
    have HR : Hid ((∀ x ∈ l, x.size ≤ 100) ↔ R = true) := by
      rw [hR]; unfold few
      rw [decide_eq_true_eq]
      exact ⟨fun k => ⟨by omega, k⟩, fun k => k.2⟩
    have HL := Lib.hid hl; have A0 := Lib.hid hA
    clear hR hl hA h
    cases c with
    | false =>
      clear d2
      go_enter Tryz.func7, Tryz.ntmps7
      go_wp2
      go_loopw [3] (fun i wr => ∃ j : Nat, j ≤ n ∧ i = .int .i64 j ∧ (∀ k, k < j → (l.getD k emp).size ≤ 100) ∧ wr = w) (fun i _ => n - (intOf i).toNat)
      case atStart => exact ⟨0, Nat.zero_le _, rfl, fun k h => absurd h (by omega), rfl⟩
      case round =>
        obtain ⟨j, hj, rfl, hall, rfl⟩ := hrel
        have HA := Lib.hid hall
        clear hall
        by_cases hlt : j < n
        · obtain ⟨b, o, rfl, c1⟩ := A0.out.cell (k := j) (by rw [HL.out]; exact hlt)
          obtain ⟨x, hx⟩ : ∃ x, x = l.getD j emp := ⟨_, rfl⟩
          rw [← hx] at c1
          have hxm : x ∈ l := by
            rw [hx]
            have : j < l.length := by rw [HL.out]; exact hlt
            simp [List.getD, this]
          by_cases hs : x.size ≤ 100
          · have ds : decide ((x.size : Int) > 100) = false := by rw [decide_eq_false_iff_not]; omega
            have NX : Hid (∀ k, k < j + 1 → (l.getD k emp).size ≤ 100) := by
              intro k hk
              by_cases e : k = j
              · subst e; rw [← hx]; exact hs
              · exact HA.out k (by omega)
            clear hx hxm hs
            go_wp2
            go_roundw
            case rel => exact ⟨j + 1, by omega, by go_num, NX.out, trivial⟩
            case measure => simp [intOf]; omega
          · have ds : decide ((x.size : Int) > 100) = true := by rw [decide_eq_true_iff]; omega
            have hr : R = false := by
              cases R with
              | false => rfl
              | true => exact absurd (HR.out.2 rfl x hxm) hs
            subst hr
            clear hx hxm hs
            go_wp2
            go_ret
            exact ⟨rfl, rfl⟩
        · obtain rfl : j = n := by omega
          have hr : R = true := HR.out.1 (fun x hx => by
            obtain ⟨k, hk, rfl⟩ := List.getElem_of_mem hx
            have := HA.out k (by have := HL.out; omega)
            simpa [List.getD, hk] using this)
          subst hr
          go_wp2
          go_ret
          exact ⟨rfl, rfl⟩
    | true =>
      have d2 := d2 rfl
      go_enter Tryz.func7, Tryz.ntmps7
      go_wp2
      go_loopw [3] (fun i wr => ∃ j : Nat, j ≤ n ∧ i = .int .i64 j ∧ (∀ k, k < j → (l.getD k emp).size ≤ 100) ∧ wr = w) (fun i _ => n - (intOf i).toNat)
      case atStart => exact ⟨0, Nat.zero_le _, rfl, fun k h => absurd h (by omega), rfl⟩
      case round =>
        obtain ⟨j, hj, rfl, hall, rfl⟩ := hrel
        have HA := Lib.hid hall
        clear hall
        by_cases hlt : j < n
        · obtain ⟨b, o, rfl, c1⟩ := A0.out.cell (k := j) (by rw [HL.out]; exact hlt)
          obtain ⟨x, hx⟩ : ∃ x, x = l.getD j emp := ⟨_, rfl⟩
          rw [← hx] at c1
          have hxm : x ∈ l := by
            rw [hx]
            have : j < l.length := by rw [HL.out]; exact hlt
            simp [List.getD, this]
          by_cases hs : x.size ≤ 100
          · have ds : decide ((x.size : Int) > 100) = false := by rw [decide_eq_false_iff_not]; omega
            have NX : Hid (∀ k, k < j + 1 → (l.getD k emp).size ≤ 100) := by
              intro k hk
              by_cases e : k = j
              · subst e; rw [← hx]; exact hs
              · exact HA.out k (by omega)
            clear hx hxm hs
            go_wp2
            go_roundw
            case rel => exact ⟨j + 1, by omega, by go_num, NX.out, trivial⟩
            case measure => simp [intOf]; omega
          · have ds : decide ((x.size : Int) > 100) = true := by rw [decide_eq_true_iff]; omega
            have hr : R = false := by
              cases R with
              | false => rfl
              | true => exact absurd (HR.out.2 rfl x hxm) hs
            subst hr
            clear hx hxm hs
            go_wp2
            go_ret
            exact ⟨rfl, rfl⟩
        · obtain rfl : j = n := by omega
          have hr : R = true := HR.out.1 (fun x hx => by
            obtain ⟨k, hk, rfl⟩ := List.getElem_of_mem hx
            have := HA.out k (by have := HL.out; omega)
            simpa [List.getD, hk] using this)
          subst hr
          go_wp2
          go_ret
          exact ⟨rfl, rfl⟩

end Go.Proofs.YtbpoggdinefkeaaGreatDoor
