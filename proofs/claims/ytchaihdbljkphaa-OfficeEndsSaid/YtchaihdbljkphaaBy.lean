/-
  The map of the first office with each ID. No statement of the seat is proved here.
-/
import Derived.Test.YtchaihdbljkphaaLk
namespace Go.Proofs.Ytchaihdbljkphaa
open Go Go.RowKit Go.Maps

def iv : Value → Nat
  | .int _ k => k.toNat
  | _ => 0
/-- The numbers of an office are numbers of an int. -/
def FitO (x : Off) : Prop := I64 x.id ∧ I64 x.fr ∧ I64 x.un ∧ (∀ n ∈ x.nx, I64 n) ∧ x.nx.length ≤ 17592186044416 ∧ x.nm.size ≤ 140737488355328
theorem off_new (w : World) (x : Off) (t : TypeId) : OffAt (w.alloc (.cells #[.int .i64 x.id, .string x.nm, .int .i64 x.fr, .int .i64 x.un, .slice x.np x.nx.length x.nc] t)) w.heap.size 0 x :=
  ⟨World.cell?_alloc_new w _ t 0, World.cell?_alloc_new w _ t 1, World.cell?_alloc_new w _ t 2, World.cell?_alloc_new w _ t 3, World.cell?_alloc_new w _ t 4⟩

set_option maxRecDepth 100000 in
set_option maxHeartbeats 8000000 in
theorem byID_any (p : Option Addr) (n c : Nat) (l : List Off) (w : World) (hL : OffsAt w p l) (hl : l.length = n) (hn : n ≤ 1000) (hF : ∀ x ∈ l, FitO x) :
    Calls Try.prog 46 #[.slice p n c] w fun e w' => e = .returned (.map (some w.heap.size)) ∧ MapQ w' w.heap.size l l ∧ Below w.heap.size w w' := by
  have HL := Lib.hid hl
  have LV := Lib.hid (fun (v : World) (h : Below w.heap.size w v) => hL.next h)
  have FF := Lib.hid hF
  have hmm := @run_makeMap Try.prog
  have M0 := Lib.hid (MapQ.new w l)
  have B0 : Hid (Below w.heap.size w (w.alloc (.map #[] 0))) := (Below.refl _ _).alloc (Nat.le_refl _) _
  clear hL hl hF
  go_enter Try.func46, Try.ntmps46
  go_wp2_with fail
  clear hmm
  obtain ⟨b, hb⟩ : ∃ b, b = w.heap.size := ⟨_, rfl⟩
  have HB := Lib.hid hb
  rw [← hb] at M0 ⊢
  clear hb
  go_loopw [11] (fun i wr => ∃ k : Nat, k ≤ n ∧ i = .int .i64 k ∧ MapQ wr b l (l.take k) ∧ Below w.heap.size w wr) (fun i _ => n - iv i)
  case atStart => exact ⟨0, Nat.zero_le _, rfl, by rw [List.take_zero]; exact M0.out, B0.out⟩
  case round =>
    obtain ⟨k, hk, rfl, hM, hB⟩ := hrel
    have NM := Lib.hid hM; have NB := Lib.hid hB
    clear hM hB M0 B0
    by_cases hkn : k < n
    · obtain ⟨x, hx⟩ : ∃ x, l[k]? = some x := ⟨_, List.getElem?_eq_getElem (by rw [HL.out]; exact hkn)⟩
      obtain ⟨blk, off, hnp, ha, _⟩ := (LV.out wr NB.out).get hx
      have q0 := ha.1; have q1 := ha.2.1; have q2 := ha.2.2.1; have q3 := ha.2.2.2.1; have q4 := ha.2.2.2.2
      have zb := ha.lt
      have hkd : decide ((k : Int) < (n : Int)) = true := by simp; omega
      have hxl := List.mem_of_getElem? hx
      have fx := FF.out x hxl
      have TK : Hid (l.take (k + 1) = l.take k ++ [x]) := by
        show _ = _
        rw [List.take_add_one, hx]
        rfl
      have SUB : Hid (∀ y ∈ l.take k, y ∈ l) := fun y hy => List.mem_of_mem_take hy
      have A1 := Lib.hid (NM.out.next ((Below.refl _ _).alloc (Nat.le_refl _) (.cells #[.int .i64 x.id, .string x.nm, .int .i64 x.fr, .int .i64 x.un, .slice x.np x.nx.length x.nc] 43)))
      have BA : Hid (Below w.heap.size w (wr.alloc (.cells #[.int .i64 x.id, .string x.nm, .int .i64 x.fr, .int .i64 x.un, .slice x.np x.nx.length x.nc] 43))) := NB.out.alloc NB.out.size _
      have FX := Lib.hid fx
      have XL := Lib.hid hxl
      clear ha hx fx hxl
      rw [hnp]
      cases hf : fnd (l.take k) x.id with
      | some y =>
        have lk := A1.out.look SUB.out FX.out.1 hf
        have HF2 := Lib.hid hf
        clear hf
        go_wp2_with fail
        go_roundw
        case rel =>
          refine ⟨k + 1, by omega, by go_num, ?_, ?_⟩
          · rw [TK.out]
            exact (NM.out.skip HF2.out).next (((Below.refl _ _).alloc (Nat.le_refl _) _).alloc (by simp) _)
          · exact BA.out.alloc BA.out.size _
        case measure => simp only [iv]; omega
      | none =>
        have lk := A1.out.miss FX.out.1 hf
        have A2 := Lib.hid (A1.out.next ((Below.refl _ _).alloc (Nat.le_refl _) (.cells #[.int .i64 0, .string ⟨#[]⟩, .int .i64 0, .int .i64 0, .slice none 0 0] 43)))
        have BA2 : Hid (Below w.heap.size w ((wr.alloc (.cells #[.int .i64 x.id, .string x.nm, .int .i64 x.fr, .int .i64 x.un, .slice x.np x.nx.length x.nc] 43)).alloc (.cells #[.int .i64 0, .string ⟨#[]⟩, .int .i64 0, .int .i64 0, .slice none 0 0] 43))) := BA.out.alloc BA.out.size _
        obtain ⟨D, m, hown, hm, h3, h4⟩ := A2.out
        have PUT := Lib.hid (fun (w' : World) h => MapQ.put (w' := w') (b := b) (l := l) (hown.tidy (int_keyed Try.underlying3)) hm h3 h4 hf h)
        have mm : m ≤ 1000 := by have := List.length_take_le k l; omega
        have KEY := key_int FX.out.1
        have VAL := offR_mk XL.out
        clear hf hm h3 h4
        go_wp2_with (at_mapUpdate; refine wpList_mapUpdate_own _ rfl _ _ _ 51 rfl 3 43 (int_keyed Try.underlying3) Try.underlying51 _ b m D rfl hown (by unfold maxLen; omega) (.int .i64 x.id) x.val (.int .i64 x.id) rfl rfl KEY (dOf l x) [] VAL ?_; intro w7 hown7 hgrow7)
        have S7 := Lib.hid (PUT.out w7 hown7)
        have B7 := Lib.hid (BA2.out.grown hgrow7 BA2.out.size (by intro q e; cases e; rw [HB.out]; exact Nat.le_refl _))
        clear hown hown7 hgrow7 PUT
        go_wp2_with fail
        go_roundw
        case rel => exact ⟨k + 1, by omega, by go_num, by rw [TK.out]; exact S7.out, B7.out⟩
        case measure => simp only [iv]; omega
    · obtain rfl : k = n := by omega
      have hkd : decide ((k : Int) < (k : Int)) = false := by simp
      have NM2 : Hid (MapQ wr b l l) := by
        show MapQ _ _ _ _
        have := NM.out
        rw [← HL.out, List.take_length] at this
        exact this
      clear NM
      go_wp2_with fail
      go_ret
      exact ⟨by rw [HB.out]; rfl, by rw [← HB.out]; exact NM2.out, NB.out⟩

end Go.Proofs.Ytchaihdbljkphaa
