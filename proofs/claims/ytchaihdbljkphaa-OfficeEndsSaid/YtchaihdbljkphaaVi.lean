/-
  Reach's closure, for any map of offices without a fault. No statement of the seat is proved here.
-/
import Derived.Test.YtchaihdbljkphaaKy
namespace Go.Proofs.Ytchaihdbljkphaa
open Go Go.RowKit Go.Maps

/-- The three boxes that the closure shares with Reach. -/
structure Bx (w : World) (b1 b2 b3 bm : Nat) (v : Value) : Prop where
  c1 : w.cell? ⟨b1, 0, none⟩ = some v
  c2 : w.cell? ⟨b2, 0, none⟩ = some (.map (some bm))
  c3 : w.cell? ⟨b3, 0, none⟩ = some (.func (.func 35) #[] #[.pointer (some ⟨b1, 0, none⟩), .pointer (some ⟨b2, 0, none⟩), .pointer (some ⟨b3, 0, none⟩)])
  n1 : b1 ≠ bm
  n2 : b2 ≠ bm
  n3 : b3 ≠ bm
theorem Bx.grown {w w' : World} {b1 b2 b3 bm : Nat} {v : Value} {row : Option Nat} (h : Bx w b1 b2 b3 bm v) (hg : w.grownBy w' row) (hr : row = none ∨ row = some bm) : Bx w' b1 b2 b3 bm v := by
  have hh : ∀ b, b ≠ bm → some b ≠ row := fun b hb e => by
    rcases hr with h | h
    · rw [h] at e; cases e
    · rw [h] at e; exact hb (Option.some.inj e)
  exact ⟨hg.cell h.c1 (hh _ h.n1), hg.cell h.c2 (hh _ h.n2), hg.cell h.c3 (hh _ h.n3), h.n1, h.n2, h.n3⟩
theorem grown_alloc {w w' : World} {row : Option Nat} (h : w.grownBy w' row) (o : Obj) : w.grownBy (w'.alloc o) row := h.trans (World.grownBy_alloc w' o row)

set_option maxRecDepth 100000 in
set_option maxHeartbeats 8000000 in
theorem visit_any (v : Value) (m : List Off) (b1 b2 b3 bm : Nat) (w1 : World) (hM : OM w1 v m) (hbm : w1.heap.size ≤ bm) : ∀ (k : Nat) (S : List Int) (id : Int) (w : World), unr m S ≤ k → S.length + unr m S ≤ 32 → I64 id →
    Below w1.heap.size w1 w → Bx w b1 b2 b3 bm v → SetM w bm S →
    Calls Try.prog 35 #[.int .i64 id, .pointer (some ⟨b1, 0, none⟩), .pointer (some ⟨b2, 0, none⟩), .pointer (some ⟨b3, 0, none⟩)] w fun e w' =>
      e = .returned (.tuple #[]) ∧ ∃ S', Vis m S id S' ∧ SetM w' bm S' ∧ S'.length + unr m S' ≤ S.length + unr m S ∧ w.grownBy w' (some bm) := by
  intro k
  induction k using Nat.strongRecOn with
  | ind k ih =>
    intro S id w hk hS hi hB hX hset
    have MV := Lib.hid (fun (u : World) (h : Below w1.heap.size w1 u) => hM.next h)
    have c1 := hX.c1; have c2 := hX.c2
    have y1 := World.block_lt_of_cell? w _ c1
    have y2 := World.block_lt_of_cell? w _ c2
    have NB := Lib.hid hB; have NX := Lib.hid hX; have NS := Lib.hid hset
    have HS := Lib.hid hS; have HK := Lib.hid hk; have HI := Lib.hid hi; have HBM := Lib.hid hbm
    have IH := Lib.hid ih
    cases hf : fnd m id with
    | none =>
      have lk := (MV.out w NB.out).vm.miss hi hf
      have HF := Lib.hid hf
      clear hM hbm ih hk hS hi hB hX hset hf
      go_enter Try.func35, Try.ntmps35
      go_wp2_with fail
      (try simp only [Exit.inBlock, Exit.then])
      refine bodyPost_ret (results_none rfl _ _ _) rfl ?_
      exact ⟨rfl, S, Vis.none HF.out, NS.out.next ((Below.refl _ _).alloc (Nat.le_refl _) _), Nat.le_refl _, World.grownBy_alloc w _ _⟩
    | some x =>
      have lk := (MV.out w NB.out).vm.look hi hf
      have HF := Lib.hid hf
      have A1 := Lib.hid (World.grownBy_alloc w (.cells #[.int .i64 x.id, .string x.nm, .int .i64 x.fr, .int .i64 x.un, .slice x.np x.nx.length x.nc] 43) (some bm))
      have S1 := Lib.hid (NS.out.next ((Below.refl _ _).alloc (Nat.le_refl _) (.cells #[.int .i64 x.id, .string x.nm, .int .i64 x.fr, .int .i64 x.un, .slice x.np x.nx.length x.nc] 43)))
      have X1 := Lib.hid (NX.out.grown A1.out (.inr rfl))
      have p2 := X1.out.c2
      have z2 := World.block_lt_of_cell? _ _ p2
      clear hM hbm ih hk hS hi hB hX hset hf
      cases hd : decide (id ∈ S) with
      | true =>
        have lk2 := S1.out.look HI.out hd
        have HD := Lib.hid (of_decide_eq_true hd)
        clear hd
        go_enter Try.func35, Try.ntmps35
        go_wp2_with fail
        (try simp only [Exit.inBlock, Exit.then])
        refine bodyPost_ret (results_none rfl _ _ _) rfl ?_
        exact ⟨rfl, S, Vis.seen HD.out, S1.out, Nat.le_refl _, A1.out⟩
      | false =>
        have lk2 := S1.out.look HI.out hd
        have HD := Lib.hid (of_decide_eq_false hd)
        clear hd
        have B1 : Hid (Below w1.heap.size w1 (w.alloc (.cells #[.int .i64 x.id, .string x.nm, .int .i64 x.fr, .int .i64 x.un, .slice x.np x.nx.length x.nc] 43))) := NB.out.alloc NB.out.size _
        have OX := off_new w x 43
        have q4 := OX.2.2.2.2
        have zx := OX.lt
        have BMZ := S1.out.lt
        have nz : w.heap.size ≠ bm := by have := NS.out.lt; omega
        have OXX := Lib.hid OX
        obtain ⟨D, mm, hown, hm, h3, h4⟩ := S1.out
        have PUT := Lib.hid (fun (w' : World) h => SetM.put (w' := w') (b := bm) (x := id) (hown.tidy (int_keyed Try.underlying3)) hm h3 h4 h)
        have mmm : mm ≤ 32 := by have := HS.out; omega
        have KEY := key_int HI.out
        have XN : Hid (∀ u, Below w1.heap.size w1 u → IntsAt u x.np x.nx) := fun u h => (MV.out u h).nx x (fnd_some HF.out).1
        have FX := Lib.hid ((MV.out w NB.out).ft x (fnd_some HF.out).1)
        have FN := Lib.hid ((MV.out w NB.out).gd.fine (fnd_some HF.out).1)
        obtain ⟨n, hn⟩ : ∃ n, x.nx.length = n := ⟨_, rfl⟩
        have HN := Lib.hid hn
        rw [hn] at q4 zx hown
        have n8 : n ≤ 8 := by rw [← hn]; exact FN.out.n8
        clear hm h3 h4 OX
        go_enter Try.func35, Try.ntmps35
        rw [hn] at lk lk2 p2 z2
        go_wp2_with (at_mapUpdate; refine wpList_mapUpdate_own _ rfl _ _ _ 55 rfl 3 4 (int_keyed Try.underlying3) Try.underlying55 _ bm mm D rfl hown (by unfold maxLen; omega) (.int .i64 id) (.bool true) (.int .i64 id) rfl rfl KEY (.lit (.bool true)) [] (plainElem_bool Try.underlying4 true) ?_; intro w7 hown7 hgrow7; have q4' := hgrow7.cell q4 (by intro e; exact nz (Option.some.inj e)))
        have S7 := Lib.hid (PUT.out w7 hown7)
        have A1' : Hid (w.grownBy (w.alloc (.cells #[.int .i64 x.id, .string x.nm, .int .i64 x.fr, .int .i64 x.un, .slice x.np n x.nc] 43)) (some bm)) := World.grownBy_alloc w _ _
        have G7 := Lib.hid (A1'.out.trans hgrow7)
        have UL := Lib.hid (unr_lt (l := m) (S := S) (T := S ++ [id]) (fun z hz => List.mem_append_left _ hz) (x := x) (fnd_some HF.out).1 (by rw [(fnd_some HF.out).2]; exact HD.out) (by rw [(fnd_some HF.out).2]; simp))
        clear hown hown7 hgrow7 PUT lk lk2 p2 z2 q4 zx q4' c1 c2 y1 y2
        go_loopw [27] (fun i wr => ∃ (j : Nat) (T : List Int), j ≤ n ∧ i = .int .i64 j ∧ VisK m S id x j T ∧ SetM wr bm T ∧ T.length + unr m T ≤ S.length + unr m S ∧ w.grownBy wr (some bm)) (fun i _ => n - iv i)
        case atStart => exact ⟨0, S ++ [id], Nat.zero_le _, rfl, VisK.zero HF.out, S7.out, by rw [List.length_append, List.length_singleton]; have := UL.out; omega, G7.out⟩
        case round =>
          obtain ⟨j, T, hj, rfl, hV, hT, hL, hG⟩ := hrel
          have VK := Lib.hid hV; have ST := Lib.hid hT; have LT := Lib.hid hL; have GW := Lib.hid hG
          have BW : Hid (Below w1.heap.size w1 wr) := NB.out.grown hG NB.out.size (fun q e => by cases e; exact HBM.out)
          clear hV hT hL hG S7 G7
          by_cases hjn : j < n
          · obtain ⟨z, hz⟩ : ∃ z, x.nx[j]? = some z := ⟨_, List.getElem?_eq_getElem (by rw [HN.out]; exact hjn)⟩
            obtain ⟨blk, off, hnp, ha⟩ := (XN.out wr BW.out).get hz
            have zb := World.block_lt_of_cell? wr _ ha
            have hkd : decide ((j : Int) < (n : Int)) = true := by simp; omega
            have XB := Lib.hid (NX.out.grown GW.out (.inr rfl))
            have c3 := XB.out.c3
            have y3 := World.block_lt_of_cell? wr _ c3
            have UT : unr m T ≤ unr m (S ++ [id]) := unr_le (fun q hq => by
              rcases List.mem_append.1 hq with h | h
              · exact VK.out.old q h
              · rw [List.mem_singleton.1 h]; exact VK.out.me)
            have CC := Lib.hid (IH.out (unr m T) (by have := UL.out; have := HK.out; omega) T z wr (Nat.le_refl _) (by have := LT.out; have := HS.out; omega) (FX.out.2.2.2.1 z (List.mem_of_getElem? hz)) BW.out XB.out ST.out)
            have HZ := Lib.hid hz
            have FZ := Lib.hid (FN.out.nxt z (List.mem_of_getElem? hz))
            clear hz UT
            rw [hnp]
            go_wp2_with fail
            refine CC.out.mono ?_
            rintro e w9 ⟨rfl, T', hV, hT, hL, hG⟩
            have VK2 := Lib.hid (VisK.succ HF.out HZ.out (by obtain ⟨y, hy, _⟩ := FZ.out; exact ⟨y, hy⟩) VK.out hV)
            have ST2 := Lib.hid hT
            have GW2 := Lib.hid (GW.out.trans hG)
            have LT2 : Hid (T'.length + unr m T' ≤ S.length + unr m S) := Nat.le_trans hL LT.out
            clear hV hT hL hG CC
            go_wp2_with fail
            go_roundw
            case rel => exact ⟨j + 1, T', by omega, by go_num, VK2.out, ST2.out, LT2.out, GW2.out⟩
            case measure => simp only [iv]; omega
          · obtain rfl : j = n := by omega
            have hkd : decide ((j : Int) < (j : Int)) = false := by simp
            have FIN : Hid (Vis m S id T) := VisK.done HF.out (by rw [HN.out]; exact VK.out)
            go_wp2_with fail
            go_end0
            exact ⟨rfl, T, FIN.out, ST.out, LT.out, GW.out⟩

end Go.Proofs.Ytchaihdbljkphaa
