/-
  One more contract of the library's; whether numbers are sorted; maps from numbers to numbers; heirs once more. No statement of the seat is proved here.
-/
import Derived.Shelf.Slices.SearchI
import Derived.Test.YtchaihdbljkphaaRd
namespace Go.Proofs
open Go.Shelf
def Try.laysNm231_ren : Go.Shelf.Ren := ⟨fun | 31 => 50 | 37 => 63 | n => n, fun | 3 => 3 | 4 => 4 | n => n, fun | n => n⟩
theorem Try.laysNm231 : Go.Proofs.Lays2.n31 Try.prog Try.laysNm231_ren := {
  mixed := by kernel_rfl
  f31 := Try.func50.trans (congrArg some (by kernel_rfl))
  f37 := Try.func63.trans (congrArg some (by kernel_rfl))
  t3 := Try.underlying3
  a3 := Try.isAgg3
  z3 := Try.sizeOf3
  v3 := Try.zeroValue3
  t4 := Try.underlying4
  a4 := Try.isAgg4
  z4 := Try.sizeOf4
  v4 := Try.zeroValue4 }
open Go.RowKit Go.Lib in
/-- cmp.Less[int]: "Less reports whether x is less than y.": 'x < y'; the world is as it was. (LAID: no walk: one application.) -/
theorem Try.cmp_Less_int2 (x y : Int) (w : World) :
    Calls Try.prog 50 #[.int .i64 x, .int .i64 y] w fun e w' => e = .returned (.bool (decide (x < y))) ∧ w' = w := Any.cmp_Less_int2 Try.laysNm231 x y w
end Go.Proofs
namespace Go.Proofs.Ytchaihdbljkphaa
open Go Go.RowKit Go.Maps Go.Joins

set_option maxRecDepth 100000 in
set_option maxHeartbeats 4000000 in
theorem sorted_ints (p : Option Addr) (l : List Int) (c : Nat) (w : World) (hp : IntsAt w p l) (hs : l.length ≤ 100000) (hl : l.Pairwise (· < ·)) :
    Calls Try.prog 25 #[.slice p l.length c] w fun e w' => e = .returned (.bool true) ∧ Below w.heap.size w w' := by
  obtain ⟨n, hn⟩ : ∃ n, l.length = n := ⟨_, rfl⟩
  rw [hn] at hs ⊢
  have HN := Lib.hid hn
  have HL := Lib.hid hl
  have HP := Lib.hid (fun v (h : Below w.heap.size w v) => hp.next h)
  have w1 : IntKind.i64.wrap ((n : Int) - 1) = (n : Int) - 1 := IntWalk.i64_in _ (by omega)
  clear hn hp hl
  go_enter Try.func25, Try.ntmps25
  go_wp2_with fail
  clear w1
  go_loopw [3] (fun i wr => ∃ k : Int, -1 ≤ k ∧ k < n ∧ i = .int .i64 k ∧ Below w.heap.size w wr) (fun i _ => (intOf i + 1).toNat)
  case atStart => exact ⟨(n : Int) - 1, by omega, by omega, rfl, Below.refl _ _⟩
  case round =>
    obtain ⟨k, h1, h2, rfl, hB⟩ := hrel
    have NB := Lib.hid hB
    clear hB
    by_cases hk : 0 < k
    · obtain ⟨j, hj⟩ : ∃ j : Nat, k = j := ⟨k.toNat, by omega⟩
      subst hj
      have j0 : 0 < j := by omega
      have jn : j < n := by omega
      obtain ⟨a, ha⟩ : ∃ a, l[j]? = some a := ⟨_, List.getElem?_eq_getElem (by rw [HN.out]; exact jn)⟩
      obtain ⟨b, hb⟩ : ∃ b, l[j - 1]? = some b := ⟨_, List.getElem?_eq_getElem (by rw [HN.out]; omega)⟩
      obtain ⟨g, o, e1, q1⟩ := (HP.out wr NB.out).get ha
      obtain ⟨g', o', e2, q2⟩ := (HP.out wr NB.out).get hb
      have e3 := e1.symm.trans e2
      cases e3
      have lt : b < a := by
        have := List.pairwise_iff_getElem.1 HL.out (j - 1) j (by rw [HN.out]; omega) (by rw [HN.out]; omega) (by omega)
        obtain ⟨_, x1⟩ := List.getElem?_eq_some_iff.1 ha
        obtain ⟨_, x2⟩ := List.getElem?_eq_some_iff.1 hb
        rw [x1, x2] at this
        exact this
      have dl : decide (a < b) = false := decide_eq_false (by omega)
      have HS := Lib.hid (show wr.cell? ⟨g, o + j, none⟩ = some (.int .i64 a) ∧ wr.cell? ⟨g, o + (j - 1), none⟩ = some (.int .i64 b) from ⟨q1, q2⟩)
      have zb := World.block_lt_of_cell? wr _ q1
      have hkd : decide ((j : Int) > 0) = true := decide_eq_true (by omega)
      have hkd' : decide (0 < j) = true := decide_eq_true j0
      have k1 : (0 : Int) ≤ (j : Int) := by omega
      have k2 : (j : Int) < (n : Int) := by omega
      have i1 : (0 : Int) ≤ (j : Int) - 1 := by omega
      have i2 : (j : Int) - 1 < (n : Int) := by omega
      have i3 : ((j : Int) - 1).toNat = j - 1 := by omega
      have i4 : IntKind.i64.wrap ((j : Int) - 1) = (j : Int) - 1 := IntWalk.i64_in _ (by omega)
      have i8 : (1 : Int) ≤ (j : Int) := by omega
      have i9 : (j : Int) ≤ (n : Int) := by omega
      have LS := Lib.hid (fun v => Try.cmp_Less_int2 a b v)
      simp only [dl] at LS
      clear ha hb q1 q2 lt dl e2
      rw [e1]
      go_wp2_with fail
      go_region_held3 (fun v => v.cell? ⟨g, o + j, none⟩ = some (.int .i64 a) ∧ v.cell? ⟨g, o + (j - 1), none⟩ = some (.int .i64 b)) (first | exact HS.out | assumption)
        ((first
          | (go_at_call 50; refine (LS.out _).mono ?_; rintro e w9 ⟨rfl, hw9⟩; have hb9 : Below wr.heap.size wr w9 := (by rw [hw9]; exact below_drewN (Below.refl _ wr) 1); have hs9 : w9.cell? ⟨g, o + j, none⟩ = some (.int .i64 a) ∧ w9.cell? ⟨g, o + (j - 1), none⟩ = some (.int .i64 b) := ⟨cell_next HS.out.1 hb9, cell_next HS.out.2 hb9⟩)))
      have NB9 : Hid (Below w.heap.size w w9) := NB.out.trans (hb9.mono NB.out.size)
      clear hb9 hs9 hw9
      go_wp2_with fail
      go_roundw
      case rel => exact ⟨(j : Int) - 1, by omega, by omega, by go_num, by first | exact NB9.out | exact below_drewN NB.out 1⟩
      case measure => simp [intOf] <;> omega
    · have hkd : decide (k > 0) = false := decide_eq_false (by omega)
      have hkd' : decide (0 < k) = false := decide_eq_false hk
      go_wp2_with fail
      go_ret
      exact ⟨rfl, NB.out⟩

/-- Block b is a map that gives numbers for numbers; 0 for others. -/
def NumM (w : World) (b : Nat) (N : Nat) (f : Int → Int) : Prop :=
  ∃ (D : DataW Unit) (n : Nat), w.ownsMap Try.prog 3 (plainElem Try.prog 3) b n D ∧ n ≤ N ∧ ∀ i : Int, D.atKey (.int .i64 i) (.lit (.int .i64 0)) = .lit (.int .i64 (f i))
theorem NumM.new (w : World) : NumM (w.alloc (.map #[] 0)) w.heap.size 0 (fun _ => 0) := ⟨_, 0, World.ownsMap_made w _ _ _, Nat.le_refl _, fun _ => rfl⟩
theorem NumM.next {w w' : World} {b N : Nat} {f : Int → Int} (h : NumM w b N f) (hb : Below w.heap.size w w') : NumM w' b N f := by
  obtain ⟨D, n, h1, h2⟩ := h
  exact ⟨D, n, h1.kept (row := none) ⟨hb.os, hb.tape, hb.output, hb.size, fun k hk _ => hb.block k hk⟩ (by simp), h2⟩
theorem NumM.lt {w : World} {b N : Nat} {f : Int → Int} (h : NumM w b N f) : b < w.heap.size := by
  obtain ⟨D, n, h1, _⟩ := h
  exact h1.lt
theorem NumM.put {w' : World} {b n N : Nat} {f : Int → Int} {D : DataW Unit} {x v : Int} (ht : Tidy D) (h0 : n ≤ N) (h3 : ∀ i : Int, D.atKey (.int .i64 i) (.lit (.int .i64 0)) = .lit (.int .i64 (f i)))
    (h : w'.ownsMap Try.prog 3 (plainElem Try.prog 3) b (n + 1) (D.put (.int .i64 x) (.lit (.int .i64 v)))) : NumM w' b (N + 1) (fun i => if i = x then v else f i) := by
  refine ⟨_, _, h, by omega, fun i => ?_⟩
  show _ = DataW.lit (Lit.int .i64 (if i = x then v else f i))
  by_cases e : x = i
  · subst e
    rw [atKey_put_same ht.isMap (k := .int .i64 x) trivial _ _, if_pos rfl]
  · rw [atKey_put_other (D := D) (k := .int .i64 x) (k' := .int .i64 i) (fun h => e (by injection h with _ q; exact q.symm)) _ _, h3, if_neg (fun q => e q.symm)]
set_option maxRecDepth 100000 in
theorem NumM.look {w : World} {b N : Nat} {f : Int → Int} (h : NumM w b N f) {n : Int} (hn : I64 n) {v : Int} (hv : f n = v) :
    (Instr.lookup 39 (.map (some b)) (.int .i64 n) false).run Try.prog w = .ok (.int .i64 v) w := by
  obtain ⟨D, k, h1, _, h3⟩ := h
  obtain ⟨c, hr, hc, _⟩ := h1.lookup_int (t := 39) (e := 3) (q := .i64) (int_keyed Try.underlying3) Try.underlying39 Try.underlying3 (Try.zeroValue3 w) (key_int hn)
  rw [h3, hv] at hc
  have : v = c := by simpa using hc
  rw [← this] at hr
  exact hr

theorem heir_self {l : List Off} (hg : GoodO l) {d : Int} {x : Off} (hx : x ∈ l) : heirF l d x.id = some x.id ↔ inD x d = true := by
  have hf := hg.fndm hx
  constructor
  · intro h
    obtain ⟨c, hc, _⟩ := hg.chl d x.id
    rw [heirF_is hc] at h
    unfold hrE at h
    cases e : c.getLast? with
    | none => rw [e] at h; cases h
    | some y =>
      rw [e] at h
      simp only at h
      cases f : fnd l y with
      | none => rw [f] at h; cases h
      | some q =>
        rw [f] at h
        simp only at h
        split at h
        · rename_i hq
          have hy := Option.some.inj h
          rw [hy] at f
          obtain rfl := Option.some.inj (hf.symm.trans f)
          exact hq
        · cases h
  · intro h
    have hc : ChL l d x.id [x.id] := .inr (.stop hf (.inl h))
    rw [heirF_is hc]
    show (match fnd l x.id with | some y => if inD y d = true then some x.id else none | none => none) = some x.id
    rw [hf]
    simp only
    rw [if_pos h]
theorem heir_in {l : List Off} {d n z : Int} (h : heirF l d n = some z) : ∃ y, fnd l z = some y ∧ inD y d = true := by
  unfold heirF at h
  split at h
  · rename_i hx
    unfold hrE at h
    cases e : hx.choose.getLast? with
    | none => rw [e] at h; cases h
    | some y =>
      rw [e] at h
      simp only at h
      cases f : fnd l y with
      | none => rw [f] at h; cases h
      | some q =>
        rw [f] at h
        simp only at h
        split at h
        · rename_i hq
          obtain rfl := Option.some.inj h
          exact ⟨q, f, hq⟩
        · cases h
  · cases h
theorem mem_dutL {l : List Off} {n d z : Int} : z ∈ dutL l n d ↔ (∃ x, fnd l z = some x) ∧ heirF l d z = some n := by
  unfold dutL
  rw [List.mem_filter, mem_ids]
  simp only [decide_eq_true_eq]
theorem dutL_lt {l : List Off} (hg : GoodO l) (n d : Int) : (dutL l n d).Pairwise (· < ·) := hg.ids.filter _
theorem dut_self {l : List Off} (hg : GoodO l) {d : Int} {x : Off} (hx : x ∈ l) : decide (x.id ∈ dutL l x.id d) = inD x d := by
  rw [Bool.eq_iff_iff, decide_eq_true_iff, mem_dutL, heir_self hg hx]
  exact ⟨fun h => h.2, fun h => ⟨⟨x, hg.fndm hx⟩, h⟩⟩
theorem dut_out {l : List Off} (hg : GoodO l) {d : Int} {x : Off} (hx : x ∈ l) (h : inD x d = false) : dutL l x.id d = [] := by
  cases e : dutL l x.id d with
  | nil => rfl
  | cons z t =>
    have hz : z ∈ dutL l x.id d := by rw [e]; exact List.mem_cons_self
    obtain ⟨y, hy, hd⟩ := heir_in (mem_dutL.1 hz).2
    obtain rfl := Option.some.inj ((hg.fndm hx).symm.trans hy)
    rw [h] at hd
    cases hd
open Classical in
/-- Who has the duties, once the first k offices, and j of the next one's duties, are entered. -/
noncomputable def holdF (l : List Off) (d : Int) (k j : Nat) (z : Int) : Int :=
  match heirF l d z with
  | none => 0
  | some y => if (∃ i x, i < k ∧ l[i]? = some x ∧ x.id = y) ∨ (∃ x, l[k]? = some x ∧ x.id = y ∧ z ∈ (dutL l y d).take j) then y else 0
theorem holdF_zero (l : List Off) (d : Int) : holdF l d 0 0 = fun _ => 0 := by
  funext z
  unfold holdF
  split
  · rfl
  · rename_i y _
    rw [if_neg]
    rintro (⟨i, x, hi, _⟩ | ⟨x, _, _, h⟩)
    · exact absurd hi (Nat.not_lt_zero _)
    · simp at h
theorem holdF_step {l : List Off} (hg : GoodO l) {d : Int} {k j : Nat} {x : Off} {z : Int} (hx : l[k]? = some x) (hz : (dutL l x.id d)[j]? = some z) :
    holdF l d k j z = 0 ∧ (fun i => if i = z then x.id else holdF l d k j i) = holdF l d k (j + 1) := by
  have hm := mem_dutL.1 (List.mem_of_getElem? hz)
  have nd : (dutL l x.id d).Nodup := (dutL_lt hg x.id d).imp fun h => by omega
  constructor
  · unfold holdF
    rw [hm.2]
    simp only
    rw [if_neg]
    rintro (⟨i, y, hi, hy, e⟩ | ⟨y, hy, e, h⟩)
    · have := hg.inj hy hx e
      omega
    · exact not_nodup hz h nd
  · funext i
    by_cases e : i = z
    · subst e
      rw [if_pos rfl]
      unfold holdF
      rw [hm.2]
      simp only
      rw [if_pos (.inr ⟨x, hx, rfl, by rw [take_next hz]; simp⟩)]
    · rw [if_neg e]
      unfold holdF
      cases h : heirF l d i with
      | none => rfl
      | some y =>
        simp only
        have key : ((∃ i x, i < k ∧ l[i]? = some x ∧ x.id = y) ∨ (∃ x, l[k]? = some x ∧ x.id = y ∧ i ∈ (dutL l y d).take j)) ↔ ((∃ i x, i < k ∧ l[i]? = some x ∧ x.id = y) ∨ (∃ x, l[k]? = some x ∧ x.id = y ∧ i ∈ (dutL l y d).take (j + 1))) := by
          constructor
          · rintro (h | ⟨q, hq, e2, h⟩)
            · exact .inl h
            · refine .inr ⟨q, hq, e2, ?_⟩
              exact (List.take_sublist_take_left (by omega)).subset h
          · rintro (h | ⟨q, hq, e2, h⟩)
            · exact .inl h
            · refine .inr ⟨q, hq, e2, ?_⟩
              obtain rfl := Option.some.inj (hx.symm.trans hq)
              rw [← e2] at h ⊢
              rw [take_next hz] at h
              rcases List.mem_append.1 h with h | h
              · exact h
              · exact absurd (List.mem_singleton.1 h) e
        by_cases g : (∃ i x, i < k ∧ l[i]? = some x ∧ x.id = y) ∨ (∃ x, l[k]? = some x ∧ x.id = y ∧ i ∈ (dutL l y d).take j)
        · rw [if_pos g, if_pos (key.1 g)]
        · rw [if_neg g, if_neg (fun q => g (key.2 q))]
theorem holdF_next {l : List Off} {d : Int} {k : Nat} {x : Off} (hx : l[k]? = some x) : holdF l d k (dutL l x.id d).length = holdF l d (k + 1) 0 := by
  funext z
  unfold holdF
  cases h : heirF l d z with
  | none => rfl
  | some y =>
    simp only
    have key : ((∃ i x, i < k ∧ l[i]? = some x ∧ x.id = y) ∨ (∃ q, l[k]? = some q ∧ q.id = y ∧ z ∈ (dutL l y d).take (dutL l x.id d).length)) ↔ ((∃ i x, i < k + 1 ∧ l[i]? = some x ∧ x.id = y) ∨ (∃ x, l[k + 1]? = some x ∧ x.id = y ∧ z ∈ (dutL l y d).take 0)) := by
      constructor
      · rintro (⟨i, q, hi, hq, e⟩ | ⟨q, hq, e, _⟩)
        · exact .inl ⟨i, q, by omega, hq, e⟩
        · exact .inl ⟨k, q, by omega, hq, e⟩
      · rintro (⟨i, q, hi, hq, e⟩ | ⟨q, _, _, h⟩)
        · rcases (show i < k ∨ i = k by omega) with g | g
          · exact .inl ⟨i, q, g, hq, e⟩
          · subst g
            refine .inr ⟨q, hq, e, ?_⟩
            obtain rfl := Option.some.inj (hx.symm.trans hq)
            rw [← e, List.take_length]
            have hz : ∃ o, fnd l z = some o := by
              unfold heirF at h
              split at h
              · rename_i hc
                rcases hc.choose_spec with ⟨_, h0⟩ | h0
                · rw [h0] at h; cases h
                · exact h0.hasx
              · cases h
            exact mem_dutL.2 ⟨hz, by rw [h, e]⟩
        · simp at h
    by_cases g : (∃ i x, i < k ∧ l[i]? = some x ∧ x.id = y) ∨ (∃ q, l[k]? = some q ∧ q.id = y ∧ z ∈ (dutL l y d).take (dutL l x.id d).length)
    · rw [if_pos g, if_pos (key.1 g)]
    · rw [if_neg g, if_neg (fun q => g (key.2 q))]
/-- At the end: the heir, or 0. -/
theorem holdF_end {l : List Off} {d z : Int} : holdF l d l.length 0 z = (match heirF l d z with | some y => y | none => 0) := by
  unfold holdF
  cases h : heirF l d z with
  | none => rfl
  | some y =>
    simp only
    rw [if_pos]
    obtain ⟨o, ho⟩ := heirF_fnd h
    obtain ⟨hm, e⟩ := fnd_some ho
    obtain ⟨i, hi⟩ := List.getElem?_of_mem hm
    exact .inl ⟨i, o, (List.getElem?_eq_some_iff.1 hi).1, hi, e⟩

end Go.Proofs.Ytchaihdbljkphaa
