/-
  slices.DeleteFunc on a list of pieces: clear on elements of three cells. No statement of the seat is proved here.
-/
import Derived.Test.YtcgjhbjbfdbfaaaWo
import Derived.Lib.SliceRun
namespace Go.Proofs.Ytcgjhbjbfdbfaaa
open Go.RowKit

theorem run_clear3 {P : Program} (w : World) (t e ty : TypeId) (z y : Value) (ht : P.underlying t = some (.slice e)) (hv : ∀ w, (zeroValue e).run P w = .ok z w) (hz : z.cells = #[y, y, y]) (h1 : y.oneCell' = true) (b o n c : Nat) (hn : 0 < n)
    (hc : ∀ j, j < n * 3 → (w.cell? ⟨b, o + j, none⟩).isSome = true) (hf : ∀ j, j < n * 3 → w.frozen? ⟨b, o + j, none⟩ = false) :
    (Builtin.clear_ #[t] ty #[.slice (some ⟨b, o, none⟩) n c]).run P w = .ok (.tuple #[]) (w.setCells b o (List.replicate (n * 3) y)) := by
  have hzc : (Builtin.zeroCells z.cells n).toList = List.replicate (n * 3) y := by
    rw [hz]
    simp [Builtin.zeroCells]
    apply List.ext_getElem
    · simp
    · intro i h1 h2
      have : i % 3 = 0 ∨ i % 3 = 1 ∨ i % 3 = 2 := by omega
      rcases this with h | h | h <;> simp [h]
  have hst := run_storeCells_cells (P := P) b o (List.replicate (n * 3) y) 0 w (by simpa using hc) (by simpa using hf) (by intro v hv'; rw [List.eq_of_mem_replicate hv']; exact h1)
  simp only [Nat.add_zero] at hst
  obtain ⟨m, rfl⟩ : ∃ m, n = m + 1 := ⟨n - 1, by omega⟩
  simp [Builtin.clear_, run_underlying ht, hv, hzc, hst]

/-- The cells of a list of pieces. -/
def lies (vs : Nat → Value) (n : Nat) (F U V : Nat → Int) : Prop := ∀ i, i < n → vs (i * 3) = .int .i64 (F i) ∧ vs (i * 3 + 1) = .int .i64 (U i) ∧ vs (i * 3 + 2) = .int .i64 (V i)
/-- Cells i0 to I are those d further on. -/
def shut (vs : Nat → Value) (i0 I d : Nat) (q : Nat) : Value := if i0 * 3 ≤ q ∧ q < I * 3 then vs (q + d * 3) else vs q
theorem HoldsN.congr {N : Nat} {w : World} {b : Nat} {vs vs' : Nat → Value} (h : HoldsN N w b vs) (e : ∀ i, i < N → vs i = vs' i) : HoldsN N w b vs' :=
  ⟨h.1, fun i hi => by rw [← e i hi]; exact h.2 i hi⟩
theorem setCells_below {B b : Nat} {a : World} (hb : B ≤ b) : ∀ (vs : List Value) (o : Nat) (w : World), Below B a w → Below B a (w.setCells b o vs)
  | [], _, _, h => h
  | v :: r, o, _, h => setCells_below hb r (o + 1) _ (h.setCell (p := ⟨b, o, none⟩) hb v)
theorem HoldsN.zeros {N : Nat} {w : World} {b : Nat} {vs : Nat → Value} (h : HoldsN N w b vs) (o m : Nat) (hm : o + m ≤ N) (z : Value) :
    ∃ vz, HoldsN N (w.setCells b o (List.replicate m z)) b vz ∧ ∀ q, q < o → vz q = vs q := by
  refine ⟨fun q => if o ≤ q ∧ q < o + m then z else vs q, ⟨?_, fun i hi => ⟨?_, ?_⟩⟩, fun q hq => if_neg (by omega)⟩
  · exact Nat.lt_of_lt_of_le h.1 (setCells_below (Nat.le_refl _) _ o w (Below.refl b w)).size
  · by_cases g : o ≤ i ∧ i < o + m
    · have := World.cell?_setCells_in b (List.replicate m z) o w (fun j hj => by rw [h.cell _ (by simp at hj; omega)]; rfl) (i - o) (by simp; omega)
      rw [show o + (i - o) = i by omega] at this
      rw [this]
      simp [g]
    · rw [World.cell?_setCells_out b _ o w _ (fun _ _ => by simp; omega)]
      simp only [if_neg g]
      exact h.cell i hi
  · rw [World.frozen?_setCells]
    exact h.frozen i hi
theorem HoldsN.pc {N : Nat} {w : World} {b : Nat} {vs : Nat → Value} (h : HoldsN N w b vs) {f u v : Int} {o : Nat} (ho : o + 2 < N) (e : vs o = .int .i64 f ∧ vs (o + 1) = .int .i64 u ∧ vs (o + 2) = .int .i64 v) : Pc w b o f u v :=
  ⟨by rw [← e.1]; exact h.cell _ (by omega), by rw [← e.2.1]; exact h.cell _ (by omega), by rw [← e.2.2]; exact h.cell _ (by omega)⟩

set_option maxRecDepth 100000 in
set_option maxHeartbeats 4000000 in
theorem DeleteFunc_cut (b N n cap i0 i1 c : Nat) (F U V : Nat → Int) (x y : Int) (vs : Nat → Value) (w : World) (hH : HoldsN N w b vs) (hN : n * 3 ≤ N) (hl : lies vs n F U V) (hn : (n : Int) ≤ 1099511627776) (hS : SpanAt w c x y) (hcb : c < b)
    (h0 : i0 < i1) (h1 : i1 ≤ n) (hcap : n ≤ cap) (hin : ∀ i, i < n → (begIn F x y i ↔ i0 ≤ i ∧ i < i1)) :
    Calls Try.prog 45 #[.slice (some ⟨b, 0, none⟩) n cap, .func (.func 46) #[] #[.pointer (some ⟨c, 0, none⟩)]] w fun e w' => e = .returned (.slice (some ⟨b, 0, none⟩) (i0 + (n - i1)) cap) ∧
      (∃ vz, HoldsN N w' b vz ∧ ∀ q, q < (i0 + (n - i1)) * 3 → vz q = shut vs i0 (i0 + (n - i1)) (i1 - i0) q) ∧ Below b w w' := by
  have zb := hH.1
  have I0 : Calls Try.prog 54 #[.slice (some ⟨b, 0, none⟩) n cap, .func (.func 46) #[] #[.pointer (some ⟨c, 0, none⟩)]] w fun e w' => e = .returned (.int .i64 (i0 : Nat)) ∧ Below w.heap.size w w' :=
    IndexFunc_loop _ n cap i0 c F U V x y w (Or.inr ⟨b, 0, rfl, fun i hi => by rw [Nat.zero_add]; exact hH.pc (by omega) (hl i hi)⟩) hn hS (by omega) (fun i hi k => by have := (hin i (by omega)).1 k; omega) _ (Or.inr ⟨by omega, (hin i0 (by omega)).2 (by omega), rfl⟩)
  have C0 := Lib.hid I0; have HH := Lib.hid hH; have HL := Lib.hid hl; have HS := Lib.hid hS; have HI := Lib.hid hin
  clear I0 hH hl hS hin
  have ei : ((i0 : Int) == -1) = false := by simp
  go_enter Try.func45, Try.ntmps45
  go_wp2_with fail
  refine C0.out.mono ?_
  rintro e w1 ⟨rfl, hb1⟩
  have B1 : Hid (Below b w w1) := hb1.mono (by omega)
  have H1 := Lib.hid (HH.out.next hb1)
  clear hb1
  go_wp2_with fail
  go_loopw [5, 6] (fun i jj wr => ∃ j : Nat, i0 < j ∧ j ≤ n ∧ i = .int .i64 ((if j ≤ i1 then i0 else i0 + (j - i1) : Nat) : Int) ∧ jj = .int .i64 j ∧ Below b w wr ∧ HoldsN N wr b (shut vs i0 (if j ≤ i1 then i0 else i0 + (j - i1)) (i1 - i0))) (fun _ j _ => n - (intOf j).toNat)
  case atStart =>
    refine ⟨i0 + 1, by omega, by omega, by rw [if_pos (show i0 + 1 ≤ i1 by omega)], by go_num, B1.out, ?_⟩
    rw [if_pos (show i0 + 1 ≤ i1 by omega)]
    refine ⟨H1.out.1, fun i hi => ?_⟩
    rw [shut, if_neg (by omega)]
    exact H1.out.2 i hi
  case round =>
    obtain ⟨j, hj0, hj, rfl, rfl, hb, hh⟩ := hrel
    have NB := Lib.hid hb; have NH := Lib.hid hh
    clear hb hh
    by_cases hjn : j < n
    · have hjd : decide ((j : Int) < (n : Int)) = true := by simp; omega
      have hc : shut vs i0 (if j ≤ i1 then i0 else i0 + (j - i1)) (i1 - i0) (j * 3) = .int .i64 (F j) ∧ shut vs i0 (if j ≤ i1 then i0 else i0 + (j - i1)) (i1 - i0) (j * 3 + 1) = .int .i64 (U j) ∧ shut vs i0 (if j ≤ i1 then i0 else i0 + (j - i1)) (i1 - i0) (j * 3 + 2) = .int .i64 (V j) := by
        have h := HL.out j hjn
        simp only [shut]
        rw [if_neg (by split <;> omega), if_neg (by split <;> omega), if_neg (by split <;> omega)]
        exact h
      have PW := Lib.hid (NH.out.pc (o := j * 3) (by omega) hc)
      have SW := Lib.hid (HS.out.below NB.out hcb)
      have q0 := PW.out.1; have q1 := PW.out.2.1; have q2 := PW.out.2.2
      have zb' := PW.out.lt
      clear hc
      by_cases hji : j < i1
      · have e : decide (x ≤ F j ∧ F j < y) = true := decide_eq_true ((HI.out j hjn).2 (by omega))
        rw [if_pos (show j ≤ i1 by omega)] at NH ⊢
        go_wp2_with fail
        refine (without1_any _ _ _ x y c _ (SW.out.below ((Below.refl _ _).alloc (Nat.le_refl _) _) SW.out.lt)).mono ?_
        rintro e w' ⟨rfl, hb⟩
        rw [e]
        go_wp2_with fail
        go_roundw
        case rel =>
          refine ⟨j + 1, by omega, by omega, by rw [if_pos (show j + 1 ≤ i1 by omega)], by go_num, ?_, ?_⟩
          · exact NB.out.trans (((Below.refl _ _).alloc (Nat.le_refl _) _ |>.mono (by omega)).trans (hb.mono (by have := NB.out.size; simp; omega)))
          · rw [if_pos (show j + 1 ≤ i1 by omega)]
            exact (NH.out.alloc _).next hb
        case measure => simp [intOf]; omega
      · have e : decide (x ≤ F j ∧ F j < y) = false := decide_eq_false (fun k => by have := (HI.out j hjn).1 k; omega)
        have eI : (if j ≤ i1 then i0 else i0 + (j - i1)) = i0 + (j - i1) := by split <;> omega
        rw [eI] at NH ⊢
        go_wp2_with fail
        refine (without1_any _ _ _ x y c _ (SW.out.below ((Below.refl _ _).alloc (Nat.le_refl _) _) SW.out.lt)).mono ?_
        rintro e w' ⟨rfl, hb⟩
        rw [e]
        have zz : b < w'.heap.size := Nat.lt_of_lt_of_le zb' (by have := hb.size; simp at this; omega)
        have e0 := (hb.cell (p := ⟨wr.heap.size, 0, none⟩) (by simp)).trans (World.cell?_alloc_new _ _ _ 0)
        have e1 := (hb.cell (p := ⟨wr.heap.size, 1, none⟩) (by simp)).trans (World.cell?_alloc_new _ _ _ 1)
        have e2 := (hb.cell (p := ⟨wr.heap.size, 2, none⟩) (by simp)).trans (World.cell?_alloc_new _ _ _ 2)
        have MH := Lib.hid ((NH.out.alloc (.cells #[.int .i64 (F j), .int .i64 (U j), .int .i64 (V j)] 47)).next hb)
        have MB : Hid (Below b w w') := NB.out.trans (((Below.refl _ _).alloc (Nat.le_refl _) _ |>.mono (by omega)).trans (hb.mono (by simp; omega)))
        have t0 := MH.out.cell ((i0 + (j - i1)) * 3) (by omega)
        have t1 := MH.out.cell ((i0 + (j - i1)) * 3 + 1) (by omega)
        have t2 := MH.out.cell ((i0 + (j - i1)) * 3 + 2) (by omega)
        have f0 := MH.out.frozen ((i0 + (j - i1)) * 3) (by omega)
        have f1 := MH.out.frozen ((i0 + (j - i1)) * 3 + 1) (by omega)
        have f2 := MH.out.frozen ((i0 + (j - i1)) * 3 + 2) (by omega)
        clear hb q0 q1 q2
        go_wp2_with fail
        go_roundw
        case rel =>
          have eJ : (if j + 1 ≤ i1 then i0 else i0 + (j + 1 - i1)) = i0 + (j - i1) + 1 := by split <;> omega
          refine ⟨j + 1, by omega, by omega, ?_, by go_num, ?_, ?_⟩
          · rw [eJ]; go_num
          · exact ((MB.out.setCell (Nat.le_refl _) _).setCell (Nat.le_refl _) _).setCell (Nat.le_refl _) _
          · rw [eJ]
            refine (((MH.out.put _ (by omega) _).put _ (by omega) _).put _ (by omega) _).congr (fun q hq => ?_)
            have hL := HL.out j hjn
            simp only [shut]
            by_cases g2 : q = (i0 + (j - i1)) * 3 + 2
            · rw [if_pos g2, if_pos (by omega), show q + (i1 - i0) * 3 = j * 3 + 2 by omega, hL.2.2]
            rw [if_neg g2]
            by_cases g1 : q = (i0 + (j - i1)) * 3 + 1
            · rw [if_pos g1, if_pos (by omega), show q + (i1 - i0) * 3 = j * 3 + 1 by omega, hL.2.1]
            rw [if_neg g1]
            by_cases g0 : q = (i0 + (j - i1)) * 3
            · rw [if_pos g0, if_pos (by omega), show q + (i1 - i0) * 3 = j * 3 by omega, hL.1]
            rw [if_neg g0]
            by_cases g3 : i0 * 3 ≤ q ∧ q < (i0 + (j - i1)) * 3
            · rw [if_pos g3, if_pos (by omega)]
            · rw [if_neg g3, if_neg (by omega)]
        case measure => simp [intOf]; omega
    · have hjd : decide ((j : Int) < (n : Int)) = false := by simp; omega
      have eI : (if j ≤ i1 then i0 else i0 + (j - i1)) = i0 + (n - i1) := by split <;> omega
      rw [eI] at NH ⊢
      have hl2 : ¬ cap = i0 + (n - i1) := by omega
      have hpos : 0 < n - (i0 + (n - i1)) := by omega
      have hcl := fun ty => run_clear3 (P := Try.prog) wr 22 47 ty (.agg #[.int .i64 0, .int .i64 0, .int .i64 0]) (.int .i64 0) Try.underlying22 (fun _ => by kernel_rfl) rfl rfl b ((i0 + (n - i1)) * 3) (n - (i0 + (n - i1))) (cap - (i0 + (n - i1))) hpos
        (fun q hq => by rw [NH.out.cell _ (by omega)]; rfl) (fun q hq => NH.out.frozen _ (by omega))
      go_wp2_with fail
      have bz : Below b w (wr.setCells b ((i0 + (n - i1)) * 3) (List.replicate ((n - (i0 + (n - i1))) * 3) (Value.int IntKind.i64 0))) := setCells_below (Nat.le_refl _) _ _ _ NB.out
      have kz : ∃ vz, HoldsN N (wr.setCells b ((i0 + (n - i1)) * 3) (List.replicate ((n - (i0 + (n - i1))) * 3) (Value.int IntKind.i64 0))) b vz ∧ ∀ q, q < (i0 + (n - i1)) * 3 → vz q = shut vs i0 (i0 + (n - i1)) (i1 - i0) q :=
        NH.out.zeros ((i0 + (n - i1)) * 3) ((n - (i0 + (n - i1))) * 3) (by omega) (.int .i64 0)
      clear hcl
      go_ret
      exact ⟨rfl, kz, bz⟩

set_option maxHeartbeats 2000000 in
theorem DeleteFunc_none (p : Option Addr) (n cap c : Nat) (F U V : Nat → Int) (x y : Int) (w : World) (hP : PcsAt w p n F U V) (hn : (n : Int) ≤ 1099511627776) (hS : SpanAt w c x y) (hin : ∀ i, i < n → ¬ begIn F x y i) :
    Calls Try.prog 45 #[.slice p n cap, .func (.func 46) #[] #[.pointer (some ⟨c, 0, none⟩)]] w fun e w' => e = .returned (.slice p n cap) ∧ Below w.heap.size w w' := by
  have C0 := Lib.hid (IndexFunc_loop p n cap n c F U V x y w hP hn hS (Nat.le_refl _) hin _ (Or.inl ⟨rfl, rfl⟩))
  clear hP hS hin
  go_enter Try.func45, Try.ntmps45
  go_wp2_with fail
  refine C0.out.mono ?_
  rintro e w1 ⟨rfl, hb1⟩
  go_wp2_with fail
  go_ret
  exact ⟨rfl, hb1⟩

end Go.Proofs.Ytcgjhbjbfdbfaaa
