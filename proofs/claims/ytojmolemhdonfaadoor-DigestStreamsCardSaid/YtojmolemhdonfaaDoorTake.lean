/-
  What the methods of a hash answer, walked over the program's text. No statement of the seat is proved here.
-/
import Derived.Test.YtojmolemhdonfaaDoorHash
namespace Go.Proofs.YtojmolemhdonfaaDoor
open Go.RowKit Kec

theorem flip_word {c n : Nat} (x : W) (hc : (c : Int) < 256) : bits .xor .u64 (wv x) (IntKind.u64.wrap ((c : Int) * 2 ^ n)) = wv (x ^^^ (bw c <<< n)) := by
  rw [wv_bw (c := c) (by omega), wv_shl, wv_xor]

set_option maxRecDepth 100000 in
set_option maxHeartbeats 1000000 in
theorem flip_any (b : Nat) (f : Nat → W) (t : Int) (n c : Nat) (w : World) (hB : HBlk w b f t) (hn : (n : Int) ≤ 135) (hc : (c : Int) < 256) :
    Calls Tryd.prog 31 #[.pointer (some ⟨b, 0, none⟩), .int .i64 n, .int .u8 c] w fun e w' => e = .returned (.tuple #[]) ∧ HBlk w' b (flipS f n c) t ∧ Mod b w w' := by
  have c0 := hB.cell (i := n / 8) (by omega)
  have c1 := hB.frozen (n / 8)
  have HF := Lib.hid (flip_word (n := n % 8 * 8) (f (n / 8)) hc)
  have HB := Lib.hid hB
  clear hB
  go_enter Tryd.func31, Tryd.ntmps31
  go_wp2
  go_region
  rw [HF.out]
  go_end0
  exact ⟨rfl, (HB.out.store (by omega) _).drew, ((Mod.refl b w).setCell (a := ⟨b, n / 8, none⟩) _).drew⟩

/-- A byte taken in. -/
def takeS (s : (Nat → W) × Nat) (c : Nat) : (Nat → W) × Nat :=
  (if (s.2 + 1) % 136 = 0 then perm (flipS s.1 (s.2 % 136) c) else flipS s.1 (s.2 % 136) c, s.2 + 1)

theorem setCells_shape (b : Nat) {n : Nat} {t : TypeId} : ∀ (vs : List Value) (o : Nat) (w : World) (A : Array Value), w.heap[b]? = some (.cells A t (0, 0)) → A.size = n →
    ∃ A', (w.setCells b o vs).heap[b]? = some (.cells A' t (0, 0)) ∧ A'.size = n
  | [], _, _, A, h, hs => ⟨A, h, hs⟩
  | v :: r, o, w, A, h, hs => setCells_shape b r (o + 1) _ (A.setIfInBounds o v) (heap_setCell_same w b o A t v h) (by rw [Array.size_setIfInBounds]; exact hs)
theorem Mod.setCells {w0 : World} (b : Nat) : ∀ (vs : List Value) (o : Nat) (w : World), Mod b w0 w → Mod b w0 (w.setCells b o vs)
  | [], _, _, h => h
  | v :: r, o, _, h => Mod.setCells b r (o + 1) _ (Mod.setCell (a := ⟨b, o, none⟩) h v)
theorem range_setCells {w : World} {b : Nat} {f : Nat → W} {t : Int} (h : HBlk w b f t) (g : Nat → W) : HBlk (w.setCells b 0 (vec 25 g).toList) b g t := by
  have hl : (vec 25 g).toList.length = 25 := by rw [Array.length_toList, vec_size]
  have hr := World.rangeAt_setCells_same w b 0 (vec 25 g).toList (by rw [hl]; exact h.there)
  have hc : (w.setCells b 0 (vec 25 g).toList).cell? ⟨b, 25, none⟩ = some (.int .i64 t) := by
    rw [World.cell?_setCells_out b _ 0 w ⟨b, 25, none⟩ (fun _ _ => by right; rw [hl]; exact Nat.le_refl 25)]
    exact h.count
  have hb : ∃ A, (w.setCells b 0 (vec 25 g).toList).heap[b]? = some (.cells A 54 (0, 0)) ∧ A.size = 26 := setCells_shape b (vec 25 g).toList 0 w (hrow f t) h (hrow_size f t)
  obtain ⟨A, hA, hs⟩ := hb
  have key : A = hrow g t := by
    apply hrow_ext hs
    · intro i hi
      have := hr i (.int .u64 (wv (g i))) (by rw [Array.getElem?_toList, vec_get g hi])
      rw [Nat.zero_add, cell_of_row _ b i A 54 (0, 0) hA] at this
      exact this
    · rw [cell_of_row _ b 25 A 54 (0, 0) hA] at hc
      exact hc
  unfold HBlk
  rw [hA, key]

/-- The state out of a hash. -/
theorem load_state {ops : Array Oper} {rest : List Oper} {o : Oper} {a : Act} {w : World} {Q : Exit → Act → World → Prop} {b : Nat} {f : Nat → W} {t : Int} (hB : HBlk w b f t) (hgd : o.guard = none) (x : Operand) (ho : o.op = .load 23 x)
    (hx : a.eval x = .pointer (some ⟨b, 0, none⟩)) (h : wpList Tryd.prog ops Q rest (a.put o.dst (.agg (vec 25 f))) w) : wpList Tryd.prog ops Q (o :: rest) a w :=
  wpList_load_mid hgd 23 x ho b 0 hx (vec 25 f).toList _ hB.range Tryd.underlying23 rfl (by rw [Array.length_toList, vec_size]; exact info23) h
/-- A state into a hash. -/
theorem store_state {ops : Array Oper} {rest : List Oper} {o : Oper} {a : Act} {w : World} {Q : Exit → Act → World → Prop} {b : Nat} {f g : Nat → W} {t : Int} (hB : HBlk w b f t) (hgd : o.guard = none) (x y : Operand) (ho : o.op = .store 23 x y)
    (hx : a.eval x = .pointer (some ⟨b, 0, none⟩)) (hy : a.eval y = .agg (vec 25 g)) (h : wpList Tryd.prog ops Q rest (a.put o.dst undef) (w.setCells b 0 (vec 25 g).toList)) : wpList Tryd.prog ops Q (o :: rest) a w :=
  wpList_store_mid hgd 23 x y ho b 0 (vec 25 g) hx hy (by rw [vec_size]; exact hB.there) (by rw [vec_size]; exact info23) (vec_one _ _) h

set_option maxRecDepth 100000 in
set_option maxHeartbeats 2000000 in
theorem take_any (b : Nat) (f : Nat → W) (t c : Nat) (w : World) (hB : HBlk w b f t) (hT : Tabs w) (hb1 : 1 < b) (hc : (c : Int) < 256) (ht : (t : Int) ≤ 4611686018427387904) :
    Calls Tryd.prog 32 #[.pointer (some ⟨b, 0, none⟩), .int .u8 c] w fun e w' => e = .returned (.tuple #[]) ∧ HBlk w' b (takeS (f, t) c).1 ((takeS (f, t) c).2 : Nat) ∧ Mod b w w' := by
  have HB := Lib.hid hB
  have HT := Lib.hid hT
  have c0 := hB.count
  clear hB hT
  go_enter Tryd.func32, Tryd.ntmps32
  go_wp2_with fail
  refine (flip_any b f t (t % 136) c w HB.out (by omega) hc).mono ?_
  rintro e w1 ⟨rfl, hB1, hm1⟩
  have c1 := hB1.count
  have c2 := hB1.frozen 25
  have B1 := Lib.hid hB1; have M1 := Lib.hid hm1
  have B2 := Lib.hid (hB1.storeCount ((t : Int) + 1))
  have M2 := Lib.hid (hm1.setCell (a := ⟨b, 25, none⟩) (.int .i64 ((t : Int) + 1)))
  have c3 := B2.out.count
  clear hB1 hm1
  by_cases h0 : (t + 1) % 136 = 0
  · have h1 : (((t : Int) + 1) % 136 == 0) = true := by simp; omega
    have HS : Hid (takeS (f, t) c = (perm (flipS f (t % 136) c), t + 1)) := by show takeS (f, t) c = _; unfold takeS; rw [if_pos h0]
    clear h0
    go_wp2_with (refine load_state B2.out rfl _ rfl rfl ?_)
    refine (perm_any _ _ (HT.out.mod M2.out hb1).1 (HT.out.mod M2.out hb1).2).mono ?_
    rintro e w3 ⟨rfl, hb3⟩
    have hlt : b < ((w1.setCell ⟨b, 25, none⟩ (.int .i64 ((t : Int) + 1)))).heap.size := B2.out.lt
    have B3 := Lib.hid (B2.out.below hb3 hlt)
    have M3 := Lib.hid (Mod.setCells b (vec 25 (perm (flipS f (t % 136) c))).toList 0 _ (M2.out.trans (Mod.of_below hb3)))
    clear hb3 hlt
    go_wp2_with (refine store_state B3.out rfl _ _ rfl rfl rfl ?_)
    go_end0
    exact ⟨rfl, by rw [HS.out]; exact range_setCells B3.out _, M3.out⟩
  · have h1 : (((t : Int) + 1) % 136 == 0) = false := by simp; omega
    have HS : Hid (takeS (f, t) c = (flipS f (t % 136) c, t + 1)) := by show takeS (f, t) c = _; unfold takeS; rw [if_neg h0]
    clear h0
    go_wp2
    go_end0
    exact ⟨rfl, by rw [HS.out]; exact B2.out, M2.out⟩
end Go.Proofs.YtojmolemhdonfaaDoor
