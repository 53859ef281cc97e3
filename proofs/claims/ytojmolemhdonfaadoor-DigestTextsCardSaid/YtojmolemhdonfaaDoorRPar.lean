/-
  What the reference's Parse answers, walked over the program's text. No statement of the seat is proved here.
-/
import Derived.Test.YtojmolemhdonfaaDoorRHex
import Derived.Deep.RegionHeld3
import Derived.Deep.CutRange
namespace Go.Proofs.YtojmolemhdonfaaDoor
open Go.RowKit Kec
/-- What the reference's digit answers. -/
def dg (c : Nat) : Int := if hok c then (hv c : Int) else -1
theorem ret_int {a b : Int} (h : a = b) : Ending.returned (.int .i64 a) = .returned (.int .i64 b) := by rw [h]
set_option maxRecDepth 100000 in
set_option maxHeartbeats 1000000 in
theorem rdigit_any (c : Nat) (w : World) (h : (c : Int) < 256) :
    Calls Tryd.prog 30 #[.int .u8 c] w fun e w' => e = .returned (.int .i64 (dg c)) ∧ w = w' := by
  by_cases a : 48 ≤ c ∧ c ≤ 57
  · have e1 : dg c = (c : Int) - 48 := by unfold dg hok hv; rw [if_pos (decide_eq_true (Or.inl a)), if_pos a]; omega
    have E := Lib.hid e1
    have a1 : (48 : Int) ≤ (c : Int) := by omega
    have a2 : (c : Int) ≤ 57 := by omega
    clear e1
    go_enter Tryd.func30, Tryd.ntmps30
    go_wp2
    go_ret
    exact ⟨ret_int (by rw [E.out]), rfl⟩
  by_cases b : 97 ≤ c ∧ c ≤ 102
  · have e1 : dg c = (c : Int) - 97 + 10 := by unfold dg hok hv; rw [if_pos (decide_eq_true (Or.inr b)), if_neg a, if_pos b]; omega
    have E := Lib.hid e1
    have a1 : (97 : Int) ≤ (c : Int) := by omega
    have a2 : (c : Int) ≤ 102 := by omega
    clear e1 a
    go_enter Tryd.func30, Tryd.ntmps30
    go_wp2
    go_ret
    exact ⟨ret_int (by rw [E.out]), rfl⟩
  have e1 : dg c = -1 := by unfold dg hok; rw [if_neg (by simp; omega)]
  have E := Lib.hid e1
  clear e1
  by_cases k1 : (c : Int) < 48
  · have k2 : (c : Int) < 97 := by omega
    clear a b
    go_enter Tryd.func30, Tryd.ntmps30
    go_wp2
    go_ret
    exact ⟨ret_int E.out.symm, rfl⟩
  · have k2 : (48 : Int) ≤ (c : Int) := by omega
    have k3 : (57 : Int) < (c : Int) := by omega
    by_cases k4 : (c : Int) < 97
    · clear a b
      go_enter Tryd.func30, Tryd.ntmps30
      go_wp2
      go_ret
      exact ⟨ret_int E.out.symm, rfl⟩
    · have k5 : (97 : Int) ≤ (c : Int) := by omega
      have k6 : (102 : Int) < (c : Int) := by omega
      clear a b
      go_enter Tryd.func30, Tryd.ntmps30
      go_wp2
      go_ret
      exact ⟨ret_int E.out.symm, rfl⟩
set_option maxHeartbeats 400000 in
theorem rparse_size (s : ByteArray) (w : World) (h : s.size ≠ 64) :
    Calls Tryd.prog 18 #[.string s] w fun e w' => e = .returned (.tuple #[.string { data := #[] }, .int .i64 3]) ∧ Below w.heap.size w w' := by
  have h1 : ((s.size : Int) != 64) = true := by simp; omega
  clear h
  go_enter Tryd.func18, Tryd.ntmps18
  go_wp2
  go_ret2
  exact ⟨rfl, Below.refl _ _⟩
def parL (s : ByteArray) (k : Nat) : List Value := (List.range k).map fun i => Value.int .u8 (parB s i : Nat)
theorem parL_len (s : ByteArray) (k : Nat) : (parL s k).length = k := by simp [parL]
theorem idx_par {k : Nat} (hk : k < 32) : IntKind.i64.wrap (2 * (k : Int)) = 2 * (k : Int) ∧ IntKind.i64.wrap (2 * (k : Int) + 1) = 2 * (k : Int) + 1 :=
  ⟨IntWalk.i64_in _ (by omega), IntWalk.i64_in _ (by omega)⟩
theorem str_index (s : ByteArray) (j : Nat) (i : Int) (hi : i = (j : Int)) (h : j < s.size) (w : World) : (Instr.index 9 (.string s) (.int .i64 i)).run Tryd.prog w = .ok (.int .u8 (s[j].toNat : Nat)) w := by
  subst hi
  show Sem.run _ _ _ = _
  rw [run_index_string (P := Tryd.prog) w 9 s .i64 (j : Int) Tryd.underlying9]
  simp [h]
/-- A byte of a text, as the walk meets it. -/
theorem text_byte (s : ByteArray) (j : Nat) (i : Int) (hi : i = (j : Int)) (h : j < s.size) : ∃ c : Nat, (c : Int) < 256 ∧ hv c = tv s j ∧ hok c = tok s j ∧
    ∀ w, (Instr.index 9 (.string s) (.int .i64 i)).run Tryd.prog w = .ok (.int .u8 (c : Nat)) w :=
  ⟨s[j].toNat, by have := s[j].toNat_lt; omega, by unfold tv; rw [byte_getD s j h], by unfold tok; rw [byte_getD s j h], str_index s j i hi h⟩
theorem convert_parL (w : World) (g cap : Nat) (s : ByteArray) {b : Nat} (h : w.ownsRow b 5 1 (.slice (some ⟨g, 0, none⟩) 32 cap) 32 (parL s 32)) : (convert 47 9 (.slice (some ⟨g, 0, none⟩) 32 cap)).run Tryd.prog w = .ok (.string (parS s)) w :=
  run_convert_bytes_arg (P := Tryd.prog) w 47 5 Tryd.underlying47 Tryd.underlying5 g 0 32 cap _ (by simp) (fun i hi => by
    rw [Nat.zero_add, h.cellAt i (by omega)]
    simp [parL, hi, List.getD]) 9 Tryd.underlying9
theorem parL_succ (s : ByteArray) (k : Nat) : parL s k ++ [.int .u8 (16 * (tv s (2 * k) : Int) + (tv s (2 * k + 1) : Int))] = parL s (k + 1) := by
  unfold parL
  rw [List.range_succ, List.map_append]
  simp only [List.map_cons, List.map_nil]
  have : (16 * (tv s (2 * k) : Int) + (tv s (2 * k + 1) : Int)) = ((parB s k : Nat) : Int) := by unfold parB; omega
  rw [this]
set_option maxRecDepth 100000 in
set_option maxHeartbeats 2000000 in
theorem rparse_any (s : ByteArray) (w : World) (h : s.size = 64) :
    Calls Tryd.prog 18 #[.string s] w fun e w' => ((okTo s 64 ∧ e = .returned (.tuple #[.string (parS s), .int .i64 0])) ∨ (¬ okTo s 64 ∧ e = .returned (.tuple #[.string { data := #[] }, .int .i64 3]))) ∧ Below w.heap.size w w' := by
  have h1 : ((s.size : Int) != 64) = false := by simp; omega
  have HSZ := Lib.hid h
  clear h
  go_enter Tryd.func18, Tryd.ntmps18
  go_wp2
  go_loopw [4, 5] (fun v i wr => ∃ k : Nat, k ≤ 32 ∧ i = .int .i64 k ∧ okTo s (2 * k) ∧ Below w.heap.size w wr ∧ wr.ownsRow w.heap.size 5 1 v k (parL s k)) (fun _ i _ => 32 - (intOf i).toNat)
  case atStart => exact ⟨0, by omega, rfl, fun j hj => by omega, (Below.refl _ _).alloc (Nat.le_refl _) _, World.ownsRow_made _ _ _ (Nat.le_refl _) (by unfold maxLen; omega) (by simp)⟩
  case round =>
    obtain ⟨k, hk, rfl, ho, hb, b0⟩ := hrel
    by_cases hlt : k < 32
    · have hl1 : 2 * k < s.size := by have := HSZ.out; omega
      have hl2 : 2 * k + 1 < s.size := by have := HSZ.out; omega
      have HO := Lib.hid ho
      have HB := Lib.hid hb; have HB0 := Lib.hid b0
      clear ho hb b0
      obtain ⟨c1, hc1, v1, o1, x1⟩ := text_byte s (2 * k) (2 * (k : Int)) (by omega) hl1
      obtain ⟨c2, hc2, v2, o2, x2⟩ := text_byte s (2 * k + 1) (2 * (k : Int) + 1) (by omega) hl2
      obtain ⟨q1, q2⟩ := idx_par hlt
      have V := Lib.hid (And.intro v1 v2)
      have O := Lib.hid (And.intro o1 o2)
      clear v1 v2 o1 o2
      clear hl1 hl2
      go_upto_region 7 with fail
      go_cut [6, 7] from 12 to 40 (fun a b wx => a = .int .i64 (dg c1) ∧ b = .int .i64 (dg c2) ∧ wx = wr.drew)
      case first =>
        go_region_held3 (fun w' => w' = wr.drew) (first | rfl | assumption) ((go_at_call 30; refine (rdigit_any _ _ (by assumption)).mono ?_; rintro e w1 ⟨rfl, rfl⟩))
        all_goals (go_wp2_with fail; go_meet; exact ⟨rfl, rfl, rfl⟩)
      case rest =>
        obtain ⟨rfl, rfl, rfl⟩ := hcut
        cases t1 : tok s (2 * k)
        · have d1 : dg c1 = -1 := by unfold dg; rw [O.out.1, t1]; rfl
          have HN : Hid (¬ okTo s 64) := by
            show ¬ okTo s 64
            intro hh
            have := hh (2 * k) (by omega)
            rw [t1] at this; cases this
          rw [d1]
          clear d1 t1
          go_wp2
          go_ret2
          exact ⟨Or.inr ⟨HN.out, rfl⟩, HB.out.drew⟩
        have d1 : dg c1 = (tv s (2 * k) : Int) := by unfold dg; rw [O.out.1, t1, if_pos rfl, V.out.1]
        cases t2 : tok s (2 * k + 1)
        · have d2 : dg c2 = -1 := by unfold dg; rw [O.out.2, t2]; rfl
          have HN : Hid (¬ okTo s 64) := by
            show ¬ okTo s 64
            intro hh
            have := hh (2 * k + 1) (by omega)
            rw [t2] at this; cases this
          rw [d1, d2]
          clear d1 d2 t1 t2
          go_wp2
          go_ret2
          exact ⟨Or.inr ⟨HN.out, rfl⟩, HB.out.drew⟩
        have d2 : dg c2 = (tv s (2 * k + 1) : Int) := by unfold dg; rw [O.out.2, t2, if_pos rfl, V.out.2]
        have HN : Hid (okTo s (2 * (k + 1))) := by
          show okTo s (2 * (k + 1))
          intro j hj
          rcases (show j < 2 * k ∨ j = 2 * k ∨ j = 2 * k + 1 by omega) with e | e | e
          · exact HO.out j e
          · rw [e]; exact t1
          · rw [e]; exact t2
        have p1 : (tv s (2 * k) : Int) < 16 := by have := hv_lt (s.data.toList.getD (2 * k) 0).toNat; unfold tv; omega
        have p2 : (tv s (2 * k + 1) : Int) < 16 := by have := hv_lt (s.data.toList.getD (2 * k + 1) 0).toNat; unfold tv; omega
        have HE := Lib.hid (parL_succ s k)
        obtain ⟨i5, hi5, hi5a, hi5b, hi5c⟩ := info_parts info5
        have hown := HB0.out
        rw [d1, d2]
        clear d1 d2 t1 t2
        go_wp2_with (first
          | (at_builtin; refine wpList_append_own _ rfl _ _ 47 rfl w.heap.size 5 i5 (.int .u8 0) 1 1 Tryd.underlying47 hi5 hi5a hi5b hi5c rfl (by decide) _ _ _ rfl (hown.drew.alloc _) ⟨wr.heap.size, 0, none⟩ 1 1 [.int .u8 (16 * (tv s (2 * k) : Int) + (tv s (2 * k + 1) : Int))] rfl rfl ?c1 ?c2 ?c3 ?c4 ?c5 ?_)
          | go_in)
        case c1 =>
          intro j u hj
          match j, hj with
          | 0, hj => simp at hj; subst hj; simp [Addr.add]
        case c2 => intro u hu; simp at hu; subst hu; rfl
        case c3 => unfold maxLen; omega
        case c4 => omega
        case c5 => have := HB.out.size; simp; omega
        · intro v' w1 hown' hgrow _
          go_wp2
          go_roundw
          case rel =>
            rw [HE.out] at hown'
            exact ⟨k + 1, by omega, by go_num, HN.out, ((HB.out.alloc HB.out.size _).drew).grown hgrow (by have := HB.out.size; simp; omega) (fun j hj => (hown.lt j hj).1), hown'⟩
          case measure => simp [intOf]; omega
    · obtain rfl : k = 32 := by omega
      clear hlt
      obtain ⟨g, cap, rfl, hg, _⟩ := b0.form (by omega)
      have hcv := convert_parL wr g cap s b0
      have HO := Lib.hid ho
      have HB7 := Lib.hid hb
      clear hb b0 ho
      go_wp2
      go_ret2
      exact ⟨Or.inl ⟨HO.out, rfl⟩, HB7.out⟩
end Go.Proofs.YtojmolemhdonfaaDoor
