/-
  Free, for any lists of strings. No statement of the seat is proved here.
-/
import Derived.Test.YtbpoggdinefkeaaGreatDoorFc
namespace Go.Proofs.YtbpoggdinefkeaaGreatDoor
open Go Go.RowKit Go.Shelf Go.Maps

abbrev emp : ByteArray := ⟨#[]⟩
/-- A list of strings in memory. -/
def StrsAt (w : World) (p : Option Addr) (l : List ByteArray) : Prop := l = [] ∨ ∃ b o, p = some ⟨b, o, none⟩ ∧ ∀ j, j < l.length → w.cell? ⟨b, o + j, none⟩ = some (.string (l.getD j emp))
theorem StrsAt.below {w w' : World} {p : Option Addr} {l : List ByteArray} (h : StrsAt w p l) (hb : Below w.heap.size w w') : StrsAt w' p l := by
  rcases h with h | ⟨b, o, rfl, h⟩
  · exact .inl h
  · exact .inr ⟨b, o, rfl, fun j hj => (hb.cell (p := ⟨b, o + j, none⟩) (World.block_lt_of_cell? w _ (h j hj))).trans (h j hj)⟩
theorem StrsAt.cell {w : World} {p : Option Addr} {l : List ByteArray} {k : Nat} (h : StrsAt w p l) (hk : k < l.length) : ∃ b o, p = some ⟨b, o, none⟩ ∧ w.cell? ⟨b, o + k, none⟩ = some (.string (l.getD k emp)) := by
  rcases h with rfl | ⟨b, o, rfl, h⟩
  · simp at hk
  · exact ⟨b, o, rfl, h k hk⟩

theorem Free_long (p : Option Addr) (n cap : Nat) (above : ByteArray) (w : World) (h : 1024 < n) : Calls Tryz.prog 10 #[.slice p n cap, .string above] w fun e w' => e = .returned (.tuple #[.string ⟨#[]⟩, .int .i64 8]) ∧ w = w' := by
  have d : decide ((n : Int) > 1024) = true := by rw [decide_eq_true_iff]; omega
  go_enter Tryz.func10, Tryz.ntmps10
  go_wp2
  go_ret2
  exact ⟨rfl, rfl⟩

/-- How Free ends behind its list. -/
def FreeEnd (w0 : World) (tk : List (List UInt8)) (above : ByteArray) (R : Value) : Prop :=
  (bs above ≠ [] ∧ (∀ ns, ¬ Is (bs above) ns) ∧ R = .tuple #[.string ⟨#[]⟩, .int .i64 3]) ∨
  ∃ ns, ((bs above = [] ∧ ns = []) ∨ Is (bs above) ns) ∧
    ∀ (w1 : World) (p : Option Addr) (cap b nn : Nat), Below w0.heap.size w0 w1 → w1.ownsRow w0.heap.size 3 1 (.slice p ns.length cap) ns.length (ints ns) → SetB w1 b nn tk →
      Calls Tryz.prog 29 #[.slice p ns.length cap, .map (some b)] w1 fun e w' => e = .returned R ∧ Below w0.heap.size w0 w'

set_option maxRecDepth 100000 in
set_option maxHeartbeats 4000000 in
theorem Free_loop (p : Option Addr) (n cap m : Nat) (taken : List ByteArray) (above : ByteArray) (X : ByteArray) (E : Int) (w : World) (hE : Env w) (hl : taken.length = n) (hn : n ≤ 1024) (hA : StrsAt w p taken) (hs : ∀ x ∈ taken, x.size ≤ 1000000000000) (ha : above.size ≤ 1000000000000)
    (hm : m ≤ n) (hg : ∀ j, j < m → ∃ ns, Is (bs (taken.getD j emp)) ns)
    (hR : (m < n ∧ (∀ ns, ¬ Is (bs (taken.getD m emp)) ns) ∧ (Value.tuple #[.string X, .int .i64 E]) = .tuple #[.string ⟨#[]⟩, .int .i64 3]) ∨ (m = n ∧ FreeEnd w (taken.map bs) above (.tuple #[.string X, .int .i64 E]))) :
    Calls Tryz.prog 10 #[.slice p n cap, .string above] w fun e w' => e = .returned (.tuple #[.string X, .int .i64 E]) ∧ Below w.heap.size w w' := by
  have d : decide ((n : Int) > 1024) = false := by rw [decide_eq_false_iff_not]; omega
  have hmm := @run_makeMap Tryz.prog
  have E0 := Lib.hid hE; have HL := Lib.hid hl; have A0 := Lib.hid hA; have HS := Lib.hid hs; have HG := Lib.hid hg; have HR := Lib.hid hR
  clear hE hl hA hs hg hR
  have S0 := Lib.hid (SetB.new w)
  have B0 : Hid (Below w.heap.size w (w.alloc (.map #[] 0))) := (Below.refl _ _).alloc (Nat.le_refl _) _
  go_enter Tryz.func10, Tryz.ntmps10
  go_wp2
  clear hmm
  obtain ⟨bm, hbm⟩ : ∃ bm, bm = w.heap.size := ⟨_, rfl⟩
  have HB := Lib.hid hbm
  rw [← hbm] at S0 ⊢
  clear hbm
  go_loopw [19] (fun i wr => ∃ j : Nat, j ≤ m ∧ i = .int .i64 j ∧ SetB wr bm j ((taken.take j).map bs) ∧ Below w.heap.size w wr) (fun i _ => n - (intOf i).toNat)
  case atStart => exact ⟨0, Nat.zero_le _, rfl, S0.out, B0.out⟩
  case round =>
    obtain ⟨j, hj, rfl, hset, hb⟩ := hrel
    have ST := Lib.hid hset; have BB := Lib.hid hb
    clear hset hb S0 B0
    by_cases hlt : j < n
    · obtain ⟨b, o, rfl, c1⟩ := ((A0.out.below (BB.out.mono (Nat.le_refl _))).cell (k := j) (by rw [HL.out]; exact hlt))
      obtain ⟨x, hx⟩ : ∃ x, x = taken.getD j emp := ⟨_, rfl⟩
      rw [← hx] at c1
      have hxm : x ∈ taken := by
        rw [hx]
        have : j < taken.length := by rw [HL.out]; exact hlt
        simp [List.getD, this]
      have xs := HS.out x hxm
      have HX := Lib.hid hx
      clear hx hxm
      rcases Nat.lt_or_ge j m with hjm | hjm
      · obtain ⟨ns, hns⟩ := HG.out j hjm
        rw [← HX.out] at hns
        have PP := Lib.hid (Parse_ok x ns wr (E0.out.below BB.out) hns)
        have KEY := WideMaps.keyOf_string_mk Tryz.underlying9 (s := x) (by unfold maxLen; omega)
        have tk : (taken.take (j + 1)).map bs = (taken.take j).map bs ++ [bs x] := by
          have h : j < taken.length := by rw [HL.out]; exact hlt
          rw [List.take_succ_eq_append_getElem h, List.map_append, HX.out]
          simp [List.getD, h]
        have TK := Lib.hid tk
        clear tk
        clear hns
        obtain ⟨K, hK⟩ : ∃ K, K = ns.length := ⟨_, rfl⟩
        rw [← hK] at PP
        clear hK
        go_wp2_with fail
        refine PP.out.mono ?_
        rintro e w2 ⟨q, c, rfl, hr, hb⟩
        have ST2 := Lib.hid (ST.out.next hb)
        have BB2 := Lib.hid (BB.out.trans (hb.mono BB.out.size))
        clear hr hb c1
        obtain ⟨D, hown, hD⟩ := ST2.out
        have HD := Lib.hid hD
        clear hD
        go_wp2_with (at_mapUpdate; refine wpList_mapUpdate_own _ rfl _ _ _ 47 rfl 9 4 (string_keyed Tryz.underlying9) Tryz.underlying47 _ bm j D rfl hown (by unfold maxLen; omega) (.string x) (.bool true) (.string x.data.toList) rfl rfl KEY (bit true) [] (plainElem_bool Tryz.underlying4 true) ?_; intro w3 hown3 hgrow3)
        have S3 := Lib.hid (SetB.put x hown.isMap HD.out hown3)
        have BB3 := Lib.hid (BB2.out.grown hgrow3 BB2.out.size (by intro q e; cases e; rw [HB.out]; exact Nat.le_refl _))
        clear hown hown3 hgrow3
        go_wp2
        go_roundw
        case rel => exact ⟨j + 1, by omega, by go_num, by rw [TK.out]; exact S3.out, BB3.out⟩
        case measure => simp [intOf]; omega
      · obtain rfl : j = m := by omega
        have qr : (∀ ns, ¬ Is (bs x) ns) ∧ (Value.tuple #[.string X, .int .i64 E]) = .tuple #[.string ⟨#[]⟩, .int .i64 3] := by
          rcases HR.out with ⟨_, h2, h3⟩ | ⟨h1, _⟩
          · rw [← HX.out] at h2; exact ⟨h2, h3⟩
          · omega
        have PP := Lib.hid (Parse_no x wr (E0.out.below BB.out) xs qr.1)
        have QR := Lib.hid qr.2
        clear qr
        go_wp2_with fail
        refine PP.out.mono ?_
        rintro e w2 ⟨rfl, hb⟩
        have BB2 := Lib.hid (BB.out.trans (hb.mono BB.out.size))
        clear hb
        go_wp2
        go_ret2
        rw [QR.out]
        exact ⟨rfl, BB2.out⟩
    · obtain rfl : j = n := by omega
      obtain rfl : m = j := by omega
      have ST2 : Hid (SetB wr bm m (taken.map bs)) := by
        have := ST.out
        rw [List.take_of_length_le (by rw [HL.out]; exact Nat.le_refl _)] at this
        exact this
      have FE : Hid (FreeEnd w (taken.map bs) above (.tuple #[.string X, .int .i64 E])) := by
        rcases HR.out with ⟨h1, _⟩ | ⟨_, h2⟩
        · omega
        · exact h2
      rcases FE.out with ⟨f1, f2, f3⟩ | ⟨ns, (⟨f1, rfl⟩ | f1), f2⟩
      · have PP := Lib.hid (Parse_no above wr (E0.out.below BB.out) ha f2)
        have QR := Lib.hid f3
        have ne : (above.toList == []) = false := by rw [tl, beq_eq_false_iff_ne]; exact f1
        have ne2 : above.toList.isEmpty = false := by rw [tl]; cases h : bs above with | nil => exact absurd h f1 | cons a b => rfl
        clear f1 f2 f3
        go_wp2_with fail
        refine PP.out.mono ?_
        rintro e w2 ⟨rfl, hb⟩
        have BB2 := Lib.hid (BB.out.trans (hb.mono BB.out.size))
        clear hb
        go_wp2
        go_ret2
        rw [QR.out]
        exact ⟨rfl, BB2.out⟩
      · have PP := Lib.hid (Parse_no above wr (E0.out.below BB.out) ha (fun ns h => h.ne f1))
        have FF := Lib.hid f2
        have ne : (above.toList == []) = true := by rw [tl, beq_iff_eq]; exact f1
        have ne2 : above.toList.isEmpty = true := by rw [tl, f1]; rfl
        have ne3 : above.toList = [] := by rw [tl]; exact f1
        clear f1 f2
        go_wp2_with fail
        refine PP.out.mono ?_
        rintro e w2 ⟨rfl, hb⟩
        have ST3 := Lib.hid (ST2.out.next hb)
        have BB2 := Lib.hid (BB.out.trans (hb.mono BB.out.size))
        clear hb
        go_wp2_with fail
        refine (FF.out w2 none 0 bm m BB2.out (World.ownsRow_nil _ _ _ _) ST3.out).mono ?_
        rintro e w3 ⟨rfl, hb⟩
        have BB3 := Lib.hid hb
        clear hb
        go_wp2
        go_ret2
        exact ⟨rfl, BB3.out⟩
      · have PP := Lib.hid (Parse_ok above ns wr (E0.out.below BB.out) f1)
        have FF := Lib.hid f2
        clear f1 f2
        obtain ⟨K, hK⟩ : ∃ K, K = ns.length := ⟨_, rfl⟩
        rw [← hK] at PP FF
        clear hK
        go_wp2_with fail
        refine PP.out.mono ?_
        rintro e w2 ⟨q, c, rfl, hr, hb⟩
        have ST3 := Lib.hid (ST2.out.next hb)
        have BB2 := Lib.hid (BB.out.trans (hb.mono BB.out.size))
        have RR := Lib.hid (row_base (base' := w.heap.size) hr BB.out.size)
        clear hb hr
        go_wp2_with fail
        refine (FF.out w2 q c bm m BB2.out RR.out ST3.out).mono ?_
        rintro e w3 ⟨rfl, hb⟩
        have BB3 := Lib.hid hb
        clear hb
        go_wp2
        go_ret2
        exact ⟨rfl, BB3.out⟩

end Go.Proofs.YtbpoggdinefkeaaGreatDoor
