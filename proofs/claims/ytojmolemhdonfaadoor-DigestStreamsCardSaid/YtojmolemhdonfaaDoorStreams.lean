/-
  PROVED HERE: the law archivumlaw01.DigestStreams answers true for every slice of slices of strings: however a string is divided among calls of Write, the hash counts its bytes, and has its digest at each point. Condition: the package variables archivum/digest.roundConstants and archivum/digest.rotations hold what the program's text lays in them (the card ties that). Every slice is spoken of (beyond 12 calls, 5 strings and 150 bytes the law itself asks nothing).
-/
import Derived.Test.YtojmolemhdonfaaDoorClones
import Derived.SliceStrings
import Derived.Deep.Slices
namespace Go.Proofs.YtojmolemhdonfaaDoor
open Go.ChangeShapes Go.WideShapes Go.ChangeAt Go.RowKit Kec

/-- A cell that is a slice of strings. -/
def RowAt (w : World) (v : Value) (ss : List ByteArray) : Prop :=
  ∃ (a : Option Addr) (cap : Nat), v = .slice a ss.length cap ∧ (ss = [] ∨ ∃ c o, a = some ⟨c, o, none⟩ ∧ ∀ i (h : i < ss.length), w.cell? ⟨c, o + i, none⟩ = some (.string ss[i]))
/-- A slice of such slices. -/
def Grid (w : World) (A : Option Addr) (n : Nat) : Prop :=
  n = 0 ∨ ∃ c o, A = some ⟨c, o, none⟩ ∧ ∀ r, r < n → ∃ v ss, w.cell? ⟨c, o + r, none⟩ = some v ∧ RowAt w v ss

theorem spot_none {w : World} {a : Addr} {v : Value} (h : w.cell? (a.add 0) = some v) : a.spot = none := by
  obtain ⟨b, off, spot⟩ := a
  simpa [Addr.add] using World.cell?_spot h
theorem add_at {a : Addr} (h : a.spot = none) (i : Nat) : a.add i = ⟨a.block, a.off + i, none⟩ := by
  obtain ⟨b, off, spot⟩ := a
  subst h
  exact add_plain ..

section
variable {H : Type} {enc : TypeId × Value → H} {P : Program} {w : World} {base : Nat} {held : Bool}

theorem open_grid {t e q : TypeId} {fuel : Nat} {cs : List Value} {x : DataW H × List MemPlace} (ht : P.underlying t = some (.slice e)) (he : P.underlying e = some (.slice q)) (hq : P.underlying q = some .string)
    (ce : P.cellsOf e = 1) (cq : P.cellsOf q = 1) (h : DataW.trod enc P w base (fun _ => true) held fuel t cs = some x) :
    ∃ A n cap, cs = [.slice A n cap] ∧ Grid w A n := by
  rcases Go.Deep.open_slice1 ht ce h with ⟨h0, _⟩ | ⟨a, len, cap, m, k, V, D, Pl, rfl, _, hl, _, hmm, _, hx⟩
  · exact ⟨none, 0, 0, h0, Or.inl rfl⟩
  refine ⟨some a, len, cap, rfl, ?_⟩
  simp only [if_true] at hmm
  by_cases hn : len = 0
  · exact Or.inl hn
  have hs : a.spot = none := spot_none (hx 0 (by omega)).1
  refine Or.inr ⟨a.block, a.off, ?_, fun r hr => ?_⟩
  · have := add_at hs 0
    simpa [Addr.add] using congrArg some this
  · have hc := (hx r (by omega)).1
    rw [add_at hs] at hc
    rcases open_strings he hq cq (hx r (by omega)).2 with ⟨hcs, _⟩ | ⟨a', len', cap', ss, hcs, _, hl', _, hz, _, hcell, _⟩
    · exact ⟨_, [], hc, none, 0, by simpa using hcs, Or.inl rfl⟩
    · simp only [if_true] at hz
      refine ⟨_, ss.take len', hc, some a', cap', ?_, ?_⟩
      · rw [List.length_take, hz, Nat.min_eq_left hl']
        simpa using hcs
      · by_cases h0 : len' = 0
        · exact Or.inl (by rw [h0]; rfl)
        have hs' : a'.spot = none := spot_none (hcell 0 (by omega))
        refine Or.inr ⟨a'.block, a'.off, ?_, fun i hi => ?_⟩
        · have := add_at hs' 0
          simpa [Addr.add] using congrArg some this
        · have hi' : i < ss.length := by rw [List.length_take] at hi; omega
          have := hcell i hi'
          rw [add_at hs'] at this
          rw [this]
          simp [List.getD, List.getElem?_eq_getElem hi']
end

theorem RowAt.below {w w' : World} {v : Value} {ss : List ByteArray} (h : RowAt w v ss) (hb : Below w.heap.size w w') : RowAt w' v ss := by
  obtain ⟨a, cap, hv, h | ⟨c, o, ha, hc⟩⟩ := h
  · exact ⟨a, cap, hv, Or.inl h⟩
  · exact ⟨a, cap, hv, Or.inr ⟨c, o, ha, fun i hi => (hb.cell (p := ⟨c, o + i, none⟩) (World.block_lt_of_cell? w _ (hc i hi))).trans (hc i hi)⟩⟩

set_option maxRecDepth 100000 in
set_option maxHeartbeats 1000000 in
/-- No string written. -/
theorem write_none (b : Nat) (f : Nat → W) (t : Nat) (a : Option Addr) (cap : Nat) (w : World) (hB : HBlk w b f t) :
    Calls Tryd.prog 21 #[.pointer (some ⟨b, 0, none⟩), .slice a 0 cap] w fun e w' => e = .returned (.int .i64 (t : Nat)) ∧ HBlk w' b f t ∧ Mod b w w' := by
  have HB := Lib.hid hB
  clear hB
  go_enter Tryd.func21, Tryd.ntmps21
  go_wp2
  go_loopw [10] (fun i wr => i = .int .i64 0 ∧ Mod b w wr ∧ HBlk wr b f t) (fun _ _ => 0)
  case atStart => exact ⟨rfl, Mod.refl b w, HB.out⟩
  case round =>
    obtain ⟨rfl, hm, hh⟩ := hrel
    have hcount := hh.count
    have HM := Lib.hid hm; have HH := Lib.hid hh
    clear hm hh
    go_wp2
    go_ret
    exact ⟨rfl, HH.out, HM.out⟩

/-- A row of strings written behind what has been taken in. -/
theorem write_row (b : Nat) (S T : ByteArray) (ss : List ByteArray) (a : Option Addr) (cap : Nat) (w0 w : World) (hB : HBlk w b (absorb init S.data.toList).1 ((absorb init S.data.toList).2 : Nat)) (hT : Tabs w) (hb1 : 1 < b)
    (h0 : w0.heap.size ≤ b) (hn : Below w0.heap.size w0 w)
    (hr : ss = [] ∨ ∃ c o, a = some ⟨c, o, none⟩ ∧ ∀ i (h : i < ss.length), w0.cell? ⟨c, o + i, none⟩ = some (.string ss[i]))
    (hl : ss.length ≤ 5) (hj : T.data.toList = S.data.toList ++ join ss) (hs : T.size ≤ 100000) :
    Calls Tryd.prog 21 #[.pointer (some ⟨b, 0, none⟩), .slice a ss.length cap] w fun e w' =>
      e = .returned (.int .i64 (T.size : Int)) ∧ HBlk w' b (absorb init T.data.toList).1 ((absorb init T.data.toList).2 : Nat) ∧ Mod b w w' := by
  have hlt : T.data.toList.length = T.size := by simp
  have hcnt : ((absorb init T.data.toList).2 : Nat) = T.size := by rw [absorb_count, hlt]; simp [init]
  have hS : ((absorb init S.data.toList).2 : Nat) = S.data.toList.length := by rw [absorb_count]; simp [init]
  rcases hr with rfl | ⟨c, o, rfl, hc⟩
  · have e : T.data.toList = S.data.toList := by rw [hj]; simp [join]
    refine (write_none b _ _ a cap w hB).mono ?_
    rintro e' w' ⟨he, hB', hm⟩
    rw [← e] at he hB'
    exact ⟨by rw [he, hcnt], hB', hm⟩
  · by_cases h00 : ss = []
    · subst h00
      have e : T.data.toList = S.data.toList := by rw [hj]; simp [join]
      refine (write_none b _ _ _ cap w hB).mono ?_
      rintro e' w' ⟨he, hB', hm⟩
      rw [← e] at he hB'
      exact ⟨by rw [he, hcnt], hB', hm⟩
    have hlen : 0 < ss.length := List.length_pos_iff.2 h00
    have hcl : c < w0.heap.size := World.block_lt_of_cell? w0 _ (hc 0 hlen)
    refine (write_any b (absorb init S.data.toList).1 (absorb init S.data.toList).2 _ c o cap ss w hB hT hb1 rfl (fun i hi => (hn.cell (p := ⟨c, o + i, none⟩) hcl).trans (hc i hi)) (by omega) (by omega) ?_).mono ?_
    · rw [hS]
      have := congrArg List.length hj
      rw [List.length_append, hlt] at this
      omega
    · rintro e' w' ⟨he, hB', hm⟩
      rw [← absorb_pair, ← absorb_append, ← hj] at he hB'
      exact ⟨by rw [he, hcnt], hB', hm⟩

theorem empty_list : (ByteArray.mk #[]).data.toList = [] := rfl

set_option maxRecDepth 100000 in
set_option maxHeartbeats 2000000 in
theorem streams_long (A : Option Addr) (n cap : Nat) (w : World) (hT : Tabs w) (h : 12 < (n : Int)) :
    Calls Tryd.prog 7 #[.slice A n cap] w fun e w' => e = .returned (.bool true) ∧ Below w.heap.size w w' := by
  have HT := Lib.hid hT
  clear hT
  go_enter Tryd.func7, Tryd.ntmps7
  go_wp2_with fail
  refine (awake_true w HT.out).mono ?_
  rintro e w1 ⟨rfl, hb⟩
  go_wp2
  go_ret
  exact ⟨rfl, hb⟩

set_option maxRecDepth 100000 in
set_option maxHeartbeats 4000000 in
theorem streams_in (A : Option Addr) (n cap : Nat) (w : World) (hG : Grid w A n) (hT : Tabs w) (h : (n : Int) ≤ 12) :
    Calls Tryd.prog 7 #[.slice A n cap] w fun e w' => e = .returned (.bool true) ∧ Below w.heap.size w w' := by
  have HT := Lib.hid hT
  have HG := Lib.hid hG
  have cnt : ∀ l : List UInt8, (l.length : Int) ≤ 100000 → (((absorb init l).2 : Nat) : Int) ≤ 4611686018427387904 := fun l h => by rw [absorb_count]; simp only [init]; omega
  have CNT := Lib.hid cnt
  have SU : ∀ (s : ByteArray) w, Tabs w → s.size ≤ 100000 → Calls Tryd.prog 13 #[.string s] w fun e w' => e = .returned (.string (digL s.data.toList)) ∧ Below w.heap.size w w' := fun s w h hs => sum_any s w h (by omega)
  have HS := Lib.hid SU
  have hlt0 := hT.lt
  clear hT hG cnt SU
  go_enter Tryd.func7, Tryd.ntmps7
  go_wp2_with fail
  refine (awake_true w HT.out).mono ?_
  rintro e w1 ⟨rfl, hb1⟩
  have T1 := Lib.hid (HT.out.next hb1); have N1 := Lib.hid hb1
  have z1 : 1 < w1.heap.size := by have := hb1.size; omega
  clear hb1
  go_wp2_with fail
  refine (new_any w1).mono ?_
  rintro e w2 ⟨rfl, hB2, hb2⟩
  have T2 := Lib.hid (T1.out.next hb2); have N2 := Lib.hid (N1.out.trans (hb2.mono N1.out.size))
  have B2 : Hid (HBlk w2 w1.heap.size (absorb init []).1 ((absorb init []).2 : Nat)) := hB2
  clear hB2 hb2
  go_wp2_with fail
  refine (hsum_list w1.heap.size [] w2 B2.out T2.out (CNT.out [] (by decide))).mono ?_
  rintro e w3 ⟨rfl, hb3⟩
  have T3 := Lib.hid (T2.out.next hb3); have N3 := Lib.hid (N2.out.trans (hb3.mono N2.out.size))
  have B3 := Lib.hid (B2.out.below hb3 B2.out.lt)
  clear hb3
  go_wp2_with fail
  refine (HS.out _ w3 T3.out (by decide)).mono ?_
  rintro e w4 ⟨rfl, hb4⟩
  have N4 := Lib.hid (N3.out.trans (hb4.mono N3.out.size))
  have B4 := Lib.hid (B3.out.below hb4 B3.out.lt)
  clear hb4
  have hbw : w.heap.size ≤ w1.heap.size := N1.out.size
  clear T1 T2 T3 N1 N2 N3 B2 B3
  rw [empty_list]
  go_wp2
  go_loopw [4, 25] (fun s i wr => ∃ (k : Nat) (S : ByteArray), k ≤ n ∧ s = .string S ∧ i = .int .i64 k ∧ S.size ≤ k * 750 ∧ Below w.heap.size w wr ∧ HBlk wr w1.heap.size (absorb init S.data.toList).1 ((absorb init S.data.toList).2 : Nat)) (fun _ i _ => n - (intOf i).toNat)
  case atStart => exact ⟨0, _, Nat.zero_le _, rfl, rfl, by decide, N4.out, B4.out⟩
  case round =>
    clear N4 B4
    obtain ⟨k, S, hk, rfl, rfl, hs, hb, hB⟩ := hrel
    by_cases hlt : k < n
    · obtain ⟨c, o, rfl, hrows⟩ : ∃ c o, A = some ⟨c, o, none⟩ ∧ ∀ r, r < n → ∃ v ss, w.cell? ⟨c, o + r, none⟩ = some v ∧ RowAt w v ss := HG.out.resolve_left (by omega)
      obtain ⟨v, ss, hcell, a, cp, rfl, hrow⟩ := hrows k hlt
      have hcw : wr.cell? ⟨c, o + k, none⟩ = some (.slice a ss.length cp) := (hb.cell (p := ⟨c, o + k, none⟩) (World.block_lt_of_cell? w _ hcell)).trans hcell
      have hkd : decide ((k : Int) < (n : Int)) = true := by simp; omega
      have HR := Lib.hid hrow
      have NB := Lib.hid hb; have BB := Lib.hid hB; have Hs := Lib.hid hs
      clear hrows hcell hrow hb hB hs HG
      by_cases h5 : 5 < (ss.length : Int)
      · go_wp2
        go_ret
        exact ⟨rfl, NB.out⟩
      have h5' : (ss.length : Int) ≤ 5 := by omega
      clear h5
      go_wp2
      go_loopw [4, 34] (fun s i wr => ∃ (j : Nat) (T : ByteArray), j ≤ ss.length ∧ s = .string T ∧ i = .int .i64 j ∧ T.size ≤ k * 750 + j * 150 ∧ T.data.toList = S.data.toList ++ join (ss.take j) ∧ Below w.heap.size w wr ∧ HBlk wr w1.heap.size (absorb init S.data.toList).1 ((absorb init S.data.toList).2 : Nat)) (fun _ i _ => ss.length - (intOf i).toNat)
      case atStart => exact ⟨0, S, Nat.zero_le _, rfl, rfl, by have := Hs.out; omega, by simp [join], NB.out, BB.out⟩
      case round =>
        clear NB BB hcw hkd
        obtain ⟨j, T, hj, rfl, rfl, ht, hjt, hb, hB⟩ := hrel
        by_cases hlt2 : j < ss.length
        · obtain ⟨c', o', rfl, hcells⟩ : ∃ c o, a = some ⟨c, o, none⟩ ∧ ∀ i (h : i < ss.length), w.cell? ⟨c, o + i, none⟩ = some (.string ss[i]) := HR.out.resolve_left (by rintro rfl; simp at hlt2)
          have hc0 := hcells j hlt2
          have hcw : wr.cell? ⟨c', o' + j, none⟩ = some (.string ss[j]) := (hb.cell (p := ⟨c', o' + j, none⟩) (World.block_lt_of_cell? w _ hc0)).trans hc0
          have hjd : decide ((j : Int) < (ss.length : Int)) = true := by simp; omega
          have HJ := Lib.hid (join_take hlt2)
          obtain ⟨s, hs2⟩ : ∃ s, ss[j] = s := ⟨_, rfl⟩
          rw [hs2] at hcw
          have HSs := Lib.hid hs2
          have NB := Lib.hid hb; have BB := Lib.hid hB; have Ht := Lib.hid ht; have Hjt := Lib.hid hjt
          clear hcells hc0 hb hB ht hjt hs2
          by_cases h150 : 150 < (s.size : Int)
          · go_wp2
            go_ret
            exact ⟨rfl, NB.out⟩
          have h150' : (s.size : Int) ≤ 150 := by omega
          clear h150
          have hTs : (T.size : Int) ≤ 10000 := by have := Ht.out; omega
          go_wp2
          go_roundw
          case rel =>
            refine ⟨j + 1, T ++ s, by omega, rfl, by go_num, ?_, ?_, NB.out, BB.out⟩
            · have := Ht.out; rw [ByteArray.size_append]; omega
            · rw [data_append, Hjt.out, HJ.out, HSs.out, List.append_assoc]
          case measure => simp [intOf]; omega
        · have hj2 : j = ss.length := by omega
          have HE : Hid (T.data.toList = S.data.toList ++ join ss) := by
            show T.data.toList = S.data.toList ++ join ss
            rw [hjt, hj2, List.take_length]
          have hT2 : T.size ≤ (k + 1) * 750 := by omega
          have H2 := Lib.hid hT2
          have hT3 : T.size ≤ 100000 := by omega
          have H3 := Lib.hid hT3
          have BB := Lib.hid hB; have NB := Lib.hid hb
          have TB := Lib.hid (HT.out.next hb)
          have hlen : ss.length ≤ 5 := by omega
          clear hB hb ht hjt hj2 hT2 hT3
          go_wp2_with fail
          refine (write_row w1.heap.size S T ss a cp w wr BB.out TB.out z1 hbw NB.out HR.out hlen HE.out H3.out).mono ?_
          rintro e w5 ⟨rfl, hB5, hm5⟩
          have N5 := Lib.hid (hm5.below NB.out NB.out.size hbw)
          have B5 := Lib.hid hB5
          have T5 := Lib.hid (TB.out.mod hm5 z1)
          clear hB5 hm5
          go_wp2_with fail
          refine (hsum_list w1.heap.size _ w5 B5.out T5.out (CNT.out _ (by have := H3.out; simp; omega))).mono ?_
          rintro e w6 ⟨rfl, hb6⟩
          have T6 := Lib.hid (T5.out.next hb6); have N6 := Lib.hid (N5.out.trans (hb6.mono N5.out.size))
          have B6 := Lib.hid (B5.out.below hb6 B5.out.lt)
          clear hb6
          go_wp2_with fail
          refine (HS.out T w6 T6.out H3.out).mono ?_
          rintro e w7 ⟨rfl, hb7⟩
          have N7 := Lib.hid (N6.out.trans (hb7.mono N6.out.size))
          have B7 := Lib.hid (B6.out.below hb7 B6.out.lt)
          clear hb7
          go_wp2
          go_roundw
          case rel => exact ⟨k + 1, T, by omega, rfl, by go_num, H2.out, N7.out, B7.out⟩
          case measure => simp [intOf]; omega
    · have hkd : decide ((k : Int) < (n : Int)) = false := by simp; omega
      have NB := Lib.hid hb
      clear hb hB
      go_wp2
      go_ret
      exact ⟨rfl, NB.out⟩

theorem streams_any (A : Option Addr) (n cap : Nat) (w : World) (hG : Grid w A n) (hT : Tabs w) :
    Calls Tryd.prog 7 #[.slice A n cap] w fun e w' => e = .returned (.bool true) ∧ Below w.heap.size w w' := by
  by_cases h : 12 < (n : Int)
  · exact streams_long A n cap w hT h
  · exact streams_in A n cap w hG hT (by omega)

theorem cells38 : Tryd.prog.cellsOf 38 = 1 := by kernel_rfl
theorem cells9 : Tryd.prog.cellsOf 9 = 1 := by kernel_rfl

set_option maxRecDepth 100000 in
theorem streams_lifted (os : Os) (started : os.Started) (H : Type) (enc : TypeId × Value → H) :
    ReturnsInHanded {} Tryd.checked os 7 .any (fun w args => (Rows.digestStreamsSpec.pre enc Tryd.prog Tryd.f7 [] false w args ∧ laidMetH Tryd.prog laid2 w) ∧ sizedMet enc Tryd.prog Tryd.f7 (OpenSpec.ofChange Rows.digestStreamsSpec) false w args)
      (Rows.digestStreamsSpec.post enc Tryd.prog Tryd.f7 false true false false) := by
  refine returnsInHanded_of_change_and (C := Tryd.checked) (X := fun w _ => laidMetH Tryd.prog laid2 w) (fun _ _ _ hh h => h.of_heap hh) own started (by kernel_rfl) Tryd.func7
    (ChangeSpec.witness_shaped (enc := enc) (C := Tryd.checked) (os := os) (X := fun w _ => laidMetH Tryd.prog laid2 w) false (World.doorLaid Tryd.prog 400 os) #[.slice none 0 0] 8 rfl (World.shaped_of_RefB (by kernel_rfl) (by kernel_rfl)) (by kernel_rfl) (by kernel_rfl) (by kernel_rfl) (door_met os _)) ?_
  intro W base args ds gs before hval0 hW _ _ hL _
  have hval : ∀ (j : Nat) t v, Tryd.f7.params[j]? = some t → args[j]? = some v → Value.okWide Tryd.prog W .any base t v := hval0
  have hW' := hW
  obtain ⟨p, q, hA0, hV, rfl, hfz, hnd⟩ := hW
  have hA : DataW.TrodAll enc Tryd.prog W 0 (fun _ => true) true Tryd.f7.params.toList args.toList ds p := hA0
  rw [Tryd.params7] at hA hval
  obtain ⟨v0, d0, rfl, rfl, h0⟩ := trodAll_one hA
  obtain ⟨rfl, rfl⟩ := trodVars_none hV
  obtain ⟨a0, len, cap, rfl⟩ := okWide_slice Tryd.underlying34 (hval 0 34 v0 rfl rfl)
  obtain ⟨fuel, hf⟩ := h0
  obtain ⟨A, n, cp, hcs, hG⟩ := open_grid Tryd.underlying34 Tryd.underlying38 Tryd.underlying9 cells38 cells9 hf
  simp [Value.cells] at hcs
  obtain ⟨rfl, rfl, rfl⟩ := hcs
  refine (streams_any _ _ _ W hG (tabs_of_laid hL)).mono fun e W' ⟨he, hb⟩ => ?_
  subst he
  exact ⟨_, rfl, post_true rfl rfl (by kernel_rfl) hW' rfl hb⟩

theorem streams_said : Rows.DigestStreamsSaid :=
  OpenClaim.holds_of_wide 7 Tryd.f7 rfl rfl rfl rfl rfl rfl rfl ⟨rfl, rfl, rfl, rfl, rfl⟩ rfl rfl rfl rfl rfl (by kernel_rfl) Tryd.func7 (by kernel_rfl)
    (of_decide_eq_true (by kernel_rfl)) (by unfold Func.isWrapper; first | (rw [if_pos (by decide +kernel)]; kernel_rfl) | (rw [if_neg (by decide +kernel)]; exact ⟨rfl, rfl⟩))
    (fun os started H enc _ => streams_lifted os started H enc)

theorem streams_holds : Rows.DigestStreamsCardSaid :=
  Claim7.holds_tied_plain_at .later [] [.data, .data] true (true, "280c02de953955338018498cf6fba117732bdeded41a15fbf9e28c4ac14ce8df") false
    streams_said (fun _ h => by cases h) (by kernel_rfl) (fun _ h => by cases h) digestStreams_row_tie rfl ⟨rfl, rfl⟩ (by kernel_rfl) rfl
    (fun f fn hf hfn => by
      obtain rfl : f = 7 := Option.some.inj ((show Tryd.prog.funcNamed "archivum/archivumlaw01.DigestStreams" = some 7 by kernel_rfl).symm.trans hf) |>.symm
      obtain rfl : fn = Tryd.f7 := (Option.some.inj (Tryd.func7.symm.trans hfn)).symm
      exact ⟨by kernel_rfl, fun j t ht => by
        rw [Tryd.params7] at ht
        have hm : t ∈ [34] := by simpa using Array.mem_of_getElem? ht
        have hall : ([34].all fun u => !Tryd.prog.wantsStandIn u) = true := by kernel_rfl
        exact (show Tryd.prog.wantsStandIn t = false by simpa using List.all_eq_true.1 hall t hm)⟩)
    (by kernel_rfl)
#print axioms streams_holds
end Go.Proofs.YtojmolemhdonfaaDoor
