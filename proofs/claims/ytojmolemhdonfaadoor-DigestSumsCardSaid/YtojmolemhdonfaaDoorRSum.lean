/-
  What the reference's Sum answers, walked over the program's text. No statement of the seat is proved here.
-/
import Derived.Test.YtojmolemhdonfaaDoorRPerm
import Derived.Test.YtojmolemhdonfaaDoorOwnT
namespace Go.Proofs.YtojmolemhdonfaaDoor
open Go.RowKit Kec

/-- The first k bytes of the padded string, as cells; q: the bytes. -/
def qrow (q : Nat → Nat) (k : Nat) : List Value := (List.range k).map fun i => Value.int .u8 (q i : Nat)
theorem qrow_succ (q : Nat → Nat) (k : Nat) : qrow q k ++ [.int .u8 (q k : Nat)] = qrow q (k + 1) := by
  unfold qrow
  rw [List.range_succ, List.map_append]
  rfl
theorem qrow_get (q : Nat → Nat) {k i : Nat} (h : i < k) : (qrow q k)[i]? = some (.int .u8 (q i : Nat)) := by simp [qrow, h]
def lenOf : Value → Nat | .slice _ n _ => n | _ => 0

/-- What []byte(data) lays. -/
theorem own_bytes (w : World) (s : ByteArray) (cap : Nat) (h1 : s.size ≤ cap) (h2 : cap ≤ maxLen) :
    OwnT (w.alloc (.cells (bytesRow s cap) 5 ((bytesRow s cap).size, (bytesRow s cap).size + 1))) w.heap.size (.slice (some ⟨w.heap.size, 0, none⟩) s.size cap) s.size (qrow (p0 s.data.toList) s.size) := by
  have hz : (bytesRow s cap).size = cap := by
    unfold bytesRow
    rw [Array.size_append, Array.size_map, Array.size_replicate]
    show s.size + (cap - s.size) = cap
    omega
  refine ⟨w.heap.size, cap, bytesRow s cap, _, rfl, Nat.le_refl _, heap_alloc_new w _, .inr (Nat.le_refl _), h1, h2, hz, ?_⟩
  apply List.ext_getElem?
  intro i
  by_cases hi : i < s.size
  · rw [List.getElem?_take, if_pos hi, Array.getElem?_toList, bytesRow_at s cap i hi, qrow_get _ hi]
    unfold p0
    rw [if_pos (by simpa using hi)]
    congr 2
    rw [List.getD_eq_getElem?_getD, Array.getElem?_toList, Array.getElem?_eq_getElem hi]
    rfl
  · rw [List.getElem?_eq_none (by simp; omega), List.getElem?_eq_none (by simp [qrow]; omega)]

theorem or_last {l : List UInt8} {k : Nat} (hk : k = padLen l) : bits BinOp.or IntKind.u8 ((p0 l (k - 1) : Nat) : Int) 128 = ((pq l (k - 1) : Nat) : Int) := by
  have hp : p0 l (k - 1) < 256 := by
    unfold p0
    split
    · exact UInt8.toNat_lt _
    · split <;> omega
  have := u8_or_nat (p0 l (k - 1)) 128 hp (by omega)
  rw [show ((128 : Nat) : Int) = 128 from rfl] at this
  rw [this]
  unfold pq
  rw [if_pos (by rw [hk])]
theorem qrow_last {l : List UInt8} {k : Nat} (h0 : 0 < k) (hk : k = padLen l) : (qrow (p0 l) k).set (k - 1) (.int .u8 ((pq l (k - 1) : Nat) : Int)) = qrow (pq l) k := by
  apply List.ext_getElem?
  intro i
  rw [List.getElem?_set]
  by_cases e : k - 1 = i
  · subst e
    rw [if_pos rfl, if_pos (by simp [qrow]; omega), qrow_get _ (by omega)]
  · rw [if_neg e]
    by_cases h : i < k
    · rw [qrow_get _ h, qrow_get _ h]
      congr 3
      unfold pq
      rw [if_neg (by omega)]
    · rw [List.getElem?_eq_none (by simp [qrow]; omega), List.getElem?_eq_none (by simp [qrow]; omega)]

theorem pq_lt (l : List UInt8) (j : Nat) : pq l j < 256 := by
  have hp : p0 l j < 256 := by
    unfold p0
    split
    · exact UInt8.toNat_lt _
    · split <;> omega
  unfold pq
  split
  · exact Nat.or_lt_two_pow (n := 8) hp (by omega)
  · exact hp
/-- What the reference's Sum works on: the padded bytes, the state. -/
structure RS (w0 : World) (g cap L bs : Nat) (q : Nat → Nat) (f : Nat → W) (w : World) : Prop where
  below : Below w0.heap.size w0 w
  own : OwnT w w0.heap.size (.slice (some ⟨g, 0, none⟩) L cap) L (qrow q L)
  blk : Blk w bs 25 23 f
  lt : g < bs
  lo : w0.heap.size ≤ bs
theorem RS.drew {w0 w : World} {g cap L bs : Nat} {q : Nat → Nat} {f : Nat → W} (h : RS w0 g cap L bs q f w) : RS w0 g cap L bs q f w.drew := ⟨h.below.drew, h.own.drew, h.blk, h.lt, h.lo⟩
theorem ownT_at {w w' : World} {base g n cap : Nat} {xs : List Value} (h : OwnT w base (.slice (some ⟨g, 0, none⟩) n cap) n xs) (hk : w'.heap[g]? = w.heap[g]?) : OwnT w' base (.slice (some ⟨g, 0, none⟩) n cap) n xs :=
  h.block fun g' cap' hv => by
    simp only [Value.slice.injEq, Option.some.injEq, Addr.mk.injEq, and_true, true_and] at hv
    obtain ⟨rfl, rfl⟩ := hv
    exact hk
theorem RS.set {w0 w : World} {g cap L bs : Nat} {q : Nat → Nat} {f : Nat → W} (h : RS w0 g cap L bs q f w) (i : Nat) (v : W) : RS w0 g cap L bs q (upd f i v) (w.setCell ⟨bs, i, none⟩ (.int .u64 (wv v))) :=
  ⟨h.below.setCell h.lo _, ownT_at h.own (Below.heap_setCell _ _ _ _ (by have := h.lt; show _ ≠ bs; omega)), h.blk.store i v, h.lt, h.lo⟩
theorem RS.row {w0 w : World} {g cap L bs : Nat} {q : Nat → Nat} {f : Nat → W} (h : RS w0 g cap L bs q f w) (f' : Nat → W) : RS w0 g cap L bs q f' (w.setRow bs (vec 25 f')) :=
  ⟨below_setRow h.below h.lo _, ownT_at h.own (setRow_other w bs g _ (by have := h.lt; omega)), h.blk.row f', h.lt, h.lo⟩
theorem RS.next {w0 w w' : World} {g cap L bs : Nat} {q : Nat → Nat} {f : Nat → W} (h : RS w0 g cap L bs q f w) (hb : Below w.heap.size w w') : RS w0 g cap L bs q f w' :=
  ⟨h.below.trans (hb.mono h.below.size), ownT_at h.own (hb.block g (by have := h.lt; have := h.blk.lt; omega)), h.blk.below hb h.blk.lt, h.lt, h.lo⟩
theorem RS.made {w0 w : World} {g cap L : Nat} {q : Nat → Nat} {j : Nat} {u : Value} (hg0 : w0.heap.size ≤ g) (hg1 : g < w.heap.size) (hb : Below w0.heap.size w0 w)
    (hT : OwnT (w.setCell ⟨g, j, none⟩ u) w0.heap.size (.slice (some ⟨g, 0, none⟩) L cap) L (qrow q L)) :
    RS w0 g cap L w.heap.size q (fun _ => 0) (((w.setCell ⟨g, j, none⟩ u).alloc (.cells (vec 25 fun _ => 0) 23)).setRow w.heap.size (vec 25 fun _ => 0)) := by
  have hN : Blk ((w.setCell ⟨g, j, none⟩ u).alloc (.cells (vec 25 fun _ => 0) 23)) w.heap.size 25 23 fun _ => 0 := by
    have := Blk.made (w.setCell ⟨g, j, none⟩ u) 25 23 (fun _ => 0)
    rwa [World.size_setCell] at this
  have hb1 : Below w0.heap.size w0 ((w.setCell ⟨g, j, none⟩ u).alloc (.cells (vec 25 fun _ => 0) 23)) := (hb.setCell hg0 _).alloc (by rw [World.size_setCell]; exact hb.size) _
  exact ⟨below_setRow hb1 hb.size _, ownT_at (hT.alloc _) (setRow_other _ _ _ _ (by omega)), hN.row _, hg1, hb.size⟩

/-- The first k bytes of the digest, as cells. -/
def outL (g : Nat → W) (k : Nat) : List Value := (List.range k).map fun i => Value.int .u8 (outB g i : Nat)
theorem outL_succ (g : Nat → W) (k : Nat) : outL g k ++ [.int .u8 (outB g k : Nat)] = outL g (k + 1) := by
  unfold outL
  rw [List.range_succ, List.map_append]
  rfl
theorem convert_outL (w : World) (b g cap : Nat) (G : Nat → W) (h : w.ownsRow b 5 1 (.slice (some ⟨g, 0, none⟩) 32 cap) 32 (outL G 32)) : (convert 47 9 (.slice (some ⟨g, 0, none⟩) 32 cap)).run Tryd.prog w = .ok (.string (strOfNums (outs G))) w :=
  run_convert_bytes_arg (P := Tryd.prog) w 47 5 Tryd.underlying47 Tryd.underlying5 g 0 32 cap _ (by simp [outs]) (fun i hi => by
    rw [Nat.zero_add, h.cellAt i (by omega)]
    simp [outL, outs, hi, List.getD]) 9 Tryd.underlying9
set_option maxRecDepth 100000 in
set_option maxHeartbeats 2000000 in
theorem rsum_any (s : ByteArray) (w : World) (hs : (s.size : Int) ≤ 700) :
    Calls Tryd.prog 14 #[.string s] w fun e w' => e = .returned (.string (sumS s)) ∧ Below w.heap.size w w' := by
  have hcv := run_bytes_of_string (P := Tryd.prog) w 9 47 5 s Tryd.underlying9 Tryd.underlying47 Tryd.underlying5
  obtain ⟨i5, hi5, hi5a, hi5b, hi5c⟩ := info_parts info5
  have hge := grownCap_ge w s.size 0 5
  have hle := grownCap_le_maxLen w s.size 0 5 (by unfold maxLen; omega)
  have HO := Lib.hid (own_bytes w.drew s (grownCap w s.size 0 5) hge hle)
  have HB : Hid (Below w.heap.size w (w.drew.alloc (.cells (bytesRow s (grownCap w s.size 0 5)) 5 ((bytesRow s (grownCap w s.size 0 5)).size, (bytesRow s (grownCap w s.size 0 5)).size + 1)))) :=
    ((Below.refl _ _).drew).alloc (Nat.le_refl _) _
  clear hge hle
  generalize grownCap w s.size 0 5 = cap at *
  go_enter Tryd.func14, Tryd.ntmps14
  have e6 : (6 : Int) = ((p0 s.data.toList s.size : Nat) : Int) := by unfold p0; rw [if_neg (by simp), if_pos (by simp)]; rfl
  have HE := Lib.hid e6
  clear e6
  go_wp2_with (first
    | (at_builtin; refine wpList_append_T rfl _ _ 47 rfl w.heap.size i5 (.int .u8 0) Tryd.underlying47 hi5 hi5a hi5b hi5c rfl _ _ _ rfl (HO.out.alloc _) ⟨w.heap.size + 1, 0, none⟩ (.int .u8 6) 1 rfl ?c1 rfl ?c2 ?c3 ?_)
    | go_in)
  case c1 => simp
  case c2 => omega
  case c3 => simp; omega
  intro v' w1 hT1 hb1
  have hT : OwnT w1 w.heap.size v' (s.size + 1) (qrow (p0 s.data.toList) (s.size + 1)) := by
    rw [HE.out, qrow_succ] at hT1; exact hT1
  have hB : Below w.heap.size w w1 := ((((Below.refl w.heap.size w).alloc (Nat.le_refl _) _).alloc (by simp) _).drew).trans hb1
  clear hT1 hb1 HO HB hcv HE
  have hL : s.size + 1 ≤ padLen s.data.toList := by unfold padLen; rw [show s.data.toList.length = s.size from by simp]; omega
  have hL7 : padLen s.data.toList ≤ 1000 := by unfold padLen; rw [show s.data.toList.length = s.size from by simp]; omega
  have hLm : ∀ k, s.size + 1 ≤ k → k ≤ padLen s.data.toList → (k % 136 = 0 ↔ k = padLen s.data.toList) := by
    intro k h1 h2
    unfold padLen at *
    rw [show s.data.toList.length = s.size from by simp] at *
    omega
  have HLm := Lib.hid hLm
  have HLn := Lib.hid (show padLen s.data.toList = 136 * (s.data.toList.length / 136 + 1) from rfl)
  clear hLm
  generalize padLen s.data.toList = L at *
  go_wp2
  go_loopw [3] (fun v wr => ∃ k : Nat, s.size + 1 ≤ k ∧ k ≤ L ∧ OwnT wr w.heap.size v k (qrow (p0 s.data.toList) k) ∧ Below w.heap.size w wr) (fun v _ => L - lenOf v)
  case atStart => exact ⟨s.size + 1, Nat.le_refl _, hL, hT, hB⟩
  case round =>
    clear hT hB
    obtain ⟨k, hk1, hk2, hT, hB⟩ := hrel
    obtain ⟨g, cap', rfl, hg0, hg1, hg2, hg3⟩ := hT.form
    by_cases hlt : k < L
    · have hm : ((k : Int) % 136 != 0) = true := by
        have := (HLm.out k hk1 hk2)
        simp; omega
      have ez : (0 : Int) = ((p0 s.data.toList k : Nat) : Int) := by unfold p0; rw [if_neg (by simp; omega), if_neg (by simp; omega)]; rfl
      have HE := Lib.hid ez
      have HT := Lib.hid hT
      have HB := Lib.hid hB
      clear ez hT hB
      go_wp2_with (first
        | (at_builtin; refine wpList_append_T rfl _ _ 47 rfl w.heap.size i5 (.int .u8 0) Tryd.underlying47 hi5 hi5a hi5b hi5c rfl _ _ _ rfl (HT.out.alloc _) ⟨wr.heap.size, 0, none⟩ (.int .u8 0) 1 rfl ?c1 rfl ?c2 ?c3 ?_)
        | go_in)
      case c1 => simp
      case c2 => omega
      case c3 => have := HB.out.size; simp; omega
      intro v2 w2 hT2 hb2
      rw [HE.out, qrow_succ] at hT2
      obtain ⟨g2, cap2, rfl, _, _, _, _⟩ := hT2.form
      have HT2 := Lib.hid hT2
      have HB2 := Lib.hid ((HB.out.alloc HB.out.size _).trans hb2)
      clear hT2 hb2
      go_wp2
      go_roundw
      case rel => exact ⟨k + 1, by omega, by omega, HT2.out, HB2.out⟩
      case measure => simp [lenOf]; omega
    · obtain rfl : k = L := by omega
      clear hlt
      have hm : ((k : Int) % 136 != 0) = false := by
        have := (HLm.out k hk1 hk2)
        simp; omega
      have c0 := (hT.cell (j := k - 1) (by omega)).trans (qrow_get _ (by omega))
      have c1 := hT.frozen (j := k - 1) (by omega)
      have hLk : k = padLen s.data.toList := HLn.out
      have HOR : Hid (bits BinOp.or IntKind.u8 ((p0 s.data.toList (k - 1) : Nat) : Int) 128 = ((pq s.data.toList (k - 1) : Nat) : Int)) := by
        exact or_last hLk
      have HT := Lib.hid hT
      have HB := Lib.hid hB
      clear hT hB
      have HS : Hid (RS w g cap' k wr.heap.size (pq s.data.toList) (fun _ => 0) (((wr.setCell ⟨g, k - 1, none⟩ (.int .u8 ((pq s.data.toList (k - 1) : Nat) : Int))).alloc (.cells (vec 25 fun _ => 0) 23)).setRow wr.heap.size (vec 25 fun _ => 0))) :=
        RS.made hg0 hg1 HB.out (by have := HT.out.store (k - 1) (.int .u8 ((pq s.data.toList (k - 1) : Nat) : Int)); rwa [qrow_last (by omega) hLk] at this)
      have HN : Hid (Blk ((wr.setCell ⟨g, k - 1, none⟩ (.int .u8 ((pq s.data.toList (k - 1) : Nat) : Int))).alloc (.cells (vec 25 fun _ => 0) 23)) wr.heap.size 25 23 fun _ => 0) := by
        have := Blk.made (wr.setCell ⟨g, k - 1, none⟩ (.int .u8 ((pq s.data.toList (k - 1) : Nat) : Int))) 25 23 (fun _ => 0)
        rwa [World.size_setCell] at this
      have HY := Lib.hid zeros25
      clear HT HB hLk
      go_wp2_with (first | (rw [HY.out, HOR.out]; refine store_blk HN.out rfl _ _ rfl rfl rfl ?_))
      have hS := HS.out
      clear HS HN HY HOR c0 c1 hm
      generalize hqq : pq s.data.toList = q at *
      have Hqq := Lib.hid hqq
      have hq : ∀ j, q j < 256 := fun j => by rw [← hqq]; exact pq_lt _ j
      have Hq := Lib.hid hq
      clear hqq hq
      generalize hM : s.data.toList.length / 136 + 1 = M at *
      have HM := Lib.hid hM
      clear hM
      generalize ((wr.setCell ⟨g, k - 1, none⟩ (Value.int .u8 ((q (k - 1) : Nat) : Int))).alloc (Obj.cells (vec 25 fun _ => 0#64) 23)).setRow wr.heap.size (vec 25 fun _ => 0#64) = wq at *
      generalize wr.heap.size = bs at *
      go_loopw [5] (fun i wr => ∃ m : Nat, m ≤ M ∧ i = .int .i64 ((136 * m : Nat) : Int) ∧ RS w g cap' k bs q (stR q m) wr) (fun i _ => k - (intOf i).toNat)
      case atStart => exact ⟨0, by omega, rfl, hS⟩
      case round =>
        clear hS
        obtain ⟨m, hm, rfl, hS⟩ := hrel
        by_cases hlt : m < M
        · have hmk : ((136 * m : Nat) : Int) < (k : Int) := by have := HLn.out; omega
          go_wp2
          obtain ⟨wo, rfl⟩ : ∃ wo : World, wo = wr := ⟨_, rfl⟩
          go_loopw [6] (fun i wr => ∃ i' : Nat, i' ≤ 136 ∧ i = .int .i64 i' ∧ RS w g cap' k bs q (flips (stR q m) (fun j => q (136 * m + j)) i') wr) (fun i _ => 136 - (intOf i).toNat)
          case atStart => exact ⟨0, by omega, rfl, hS⟩
          case round =>
            clear hS
            obtain ⟨i, hi, rfl, hS⟩ := hrel
            by_cases hlt2 : i < 136
            · have hi136 : decide ((i : Int) < 136) = true := by simp; omega
              have c0 := hS.blk.cell (i := i / 8) (by omega)
              have c1 := hS.blk.frozen (i / 8)
              have c2 := (hS.own.cell (j := 136 * m + i) (by have := HLn.out; omega)).trans (qrow_get q (by have := HLn.out; omega))
              have hqb := Hq.out (136 * m + i)
              have hmi : 136 * m + i < k := by have := HLn.out; omega
              have HF := Lib.hid (flip_word (c := q (136 * m + i)) (n := 8 * (i % 8)) (flips (stR q m) (fun j => q (136 * m + j)) i (i / 8)) (by omega))
              go_wp2
              go_region
              rw [HF.out, Nat.mul_comm 8 (i % 8)]
              go_wp2
              go_roundw
              case rel => exact ⟨i + 1, by omega, by go_num, (hS.set (i / 8) _).drew⟩
              case measure => simp [intOf]; omega
            · obtain rfl : i = 136 := by omega
              clear hlt2
              have HS2 := Lib.hid hS
              have HB2 := Lib.hid hS.blk
              clear hS
              rw [show ((136 : Nat) : Int) = 136 from rfl]
              go_wp2_with (first | (refine load_blk HB2.out rfl _ rfl rfl ?_))
              refine (rperm_any _ _).mono ?_
              rintro e w3 ⟨rfl, hb3⟩
              have HS3 := Lib.hid (HS2.out.next hb3)
              have HB3 := Lib.hid HS3.out.blk
              clear hb3
              go_wp2_with (refine store_blk HB3.out rfl _ _ rfl rfl rfl ?_)
              have hw : IntKind.i64.wrap (((136 * m : Nat) : Int) + 136) = ((136 * (m + 1) : Nat) : Int) := by rw [IntWalk.i64_in _ (by have := HLn.out; omega)]; omega
              go_roundw
              case rel => exact ⟨m + 1, by omega, by go_num, HS3.out.row _⟩
              case measure => simp [intOf]; omega
        · obtain rfl : m = M := by omega
          clear hlt
          have hG : stR q m = lastS (absorb init s.data.toList) := by rw [← Hqq.out, ← HM.out]; exact stR_last _
          rw [hG] at hS
          clear hG
          have HD : Hid (strOfNums (outs (lastS (absorb init s.data.toList))) = sumS s) := rfl
          generalize lastS (absorb init s.data.toList) = G at *
          have hbs := hS.blk.lt
          have hlo := hS.lo
          have hmk : ¬ ((136 * m : Nat) : Int) < (k : Int) := by have := HLn.out; omega
          have hBl := hS.below
          have hBk := hS.blk
          clear hS
          go_wp2
          obtain ⟨wo, rfl⟩ : ∃ wo : World, wo = wr := ⟨_, rfl⟩
          go_loopw [7, 8] (fun v i wr => ∃ i' : Nat, i' ≤ 32 ∧ i = .int .i64 i' ∧ wr.ownsRow (bs + 1) 5 1 v i' (outL G i') ∧ Blk wr bs 25 23 G ∧ Below w.heap.size w wr) (fun _ i _ => 32 - (intOf i).toNat)
          case atStart => exact ⟨0, by omega, rfl, World.ownsRow_made _ _ _ hbs (by unfold maxLen; omega) (by simp), hBk.alloc _, hBl.alloc hBl.size _⟩
          case round =>
            clear hBk hBl hbs
            obtain ⟨i, hi, rfl, hown, hBk, hBl⟩ := hrel
            by_cases hlt2 : i < 32
            · have hi32 : decide ((i : Int) < 32) = true := by simp; omega
              have c0 := hBk.cell (i := i / 8) (by omega)
              have HBk := Lib.hid hBk; have HBl := Lib.hid hBl; have HO := Lib.hid hown
              clear hBk hBl hown
              have hval : wv (G (i / 8)) / 2 ^ (8 * (i % 8)) % 256 = ((outB G i : Nat) : Int) := by rw [Nat.mul_comm 8 (i % 8), out_word]; rfl
              have HV := Lib.hid hval
              clear hval
              have hown := HO.out
              go_wp2_with (first
                | (at_builtin; refine wpList_append_own _ rfl _ _ 47 rfl (bs + 1) 5 i5 (.int .u8 0) 1 1 Tryd.underlying47 hi5 hi5a hi5b hi5c rfl (by decide) _ _ _ rfl (hown.alloc _) ⟨wr.heap.size, 0, none⟩ 1 1 [.int .u8 (wv (G (i / 8)) / 2 ^ (8 * (i % 8)) % 256)] rfl rfl ?c1 ?c2 ?c3 ?c4 ?c5 ?_)
                | go_in)
              case c1 =>
                intro j u hj
                match j, hj with
                | 0, hj => simp at hj; subst hj; simp [Addr.add]
              case c2 => intro u hu; simp at hu; subst hu; rfl
              case c3 => unfold maxLen; omega
              case c4 => omega
              case c5 => have := HBk.out.lt; simp; omega
              · intro v3 w3 hown3 hgrow _
                rw [HV.out, outL_succ] at hown3
                have hb3 : w3.heap[bs]? = (wr.alloc (.cells #[.int .u8 (wv (G (i / 8)) / 2 ^ (8 * (i % 8)) % 256)] 5)).heap[bs]? := hgrow.block bs (by have := HBk.out.lt; simp; omega) (fun e => by have := (hown.lt bs e.symm).1; omega)
                have hB3 : Blk w3 bs 25 23 G := hb3.trans (HBk.out.alloc _)
                have hBl3 : Below w.heap.size w w3 := (HBl.out.alloc HBl.out.size _).grown hgrow (by have := HBl.out.size; simp; omega) (fun j hj => by have := (hown.lt j hj).1; omega)
                have H3 := Lib.hid (And.intro hown3 (And.intro hB3 hBl3))
                clear hown3 hB3 hBl3 hb3 hgrow hown
                go_wp2
                go_roundw
                case rel => exact ⟨i + 1, by omega, by go_num, H3.out⟩
                case measure => simp [intOf]; omega
            · obtain rfl : i = 32 := by omega
              clear hlt2
              obtain ⟨g3, cap3, rfl, _, _⟩ := hown.form (by omega)
              have hcv := convert_outL wr (bs + 1) g3 cap3 G hown
              have HBl := Lib.hid hBl
              clear hown hBk hBl
              go_wp2
              go_ret
              exact ⟨ret_str HD.out, HBl.out⟩
end Go.Proofs.YtojmolemhdonfaaDoor
