/-
  Parse answers the dating whose text it is given. No statement of the seat is proved here.
-/
import Derived.Test.YtjpiaccpcmlfnaaDoorPf
namespace Go.Proofs.YtjpiaccpcmlfnaaDoor
open Go.RowKit Cal
open Classical

theorem prefix_no {l p : List UInt8} {c : UInt8} (h : ∃ c t, l = c :: t ∧ 48 ≤ c.toNat ∧ c.toNat ≤ 57) (hc : 57 < c.toNat) : Lib.hasPrefix l (c :: p) = false := by
  obtain ⟨d, t, rfl, h1, h2⟩ := h
  unfold Lib.hasPrefix
  rw [List.isPrefixOf_cons_cons]
  have : (c == d) = false := by
    rw [beq_eq_false_iff_ne]
    intro e
    subst e
    omega
  rw [this]
  rfl
theorem perE_size {s : ByteArray} (h4 : s.size ≠ 4) (h7 : s.size ≠ 7) (h10 : s.size ≠ 10) : perE s = 3 := by
  unfold perE
  rw [if_neg h4, if_neg h7, if_neg h10]
theorem app_size (a b : ByteArray) : (a ++ b).size = a.size + b.size := by simp
theorem behind_app (p t : ByteArray) : behind p (p ++ t) = t ∧ Lib.hasPrefix (p ++ t).data.toList p.data.toList = true := by
  have h : Lib.hasPrefix (p ++ t).data.toList p.data.toList = true := by
    rw [data_append]
    unfold Lib.hasPrefix
    simp
  refine ⟨?_, h⟩
  unfold behind Lib.trimPrefix
  rw [if_pos h, data_append, List.drop_left]
theorem ne_unk {s : ByteArray} (h : ∀ c t, s.data.toList = c :: t → c ≠ 117) : s ≠ unk := by
  rintro rfl
  exact h 117 _ rfl rfl
theorem IsPer.ne_unk {s : ByteArray} (h : IsPer s) : s ≠ unk := by
  obtain ⟨c, t, e, h1, h2⟩ := h.2.1.2
  refine YtjpiaccpcmlfnaaDoor.ne_unk (fun c' t' e' => ?_)
  rw [e] at e'
  cases e'
  intro g
  subst g
  simp at h2

theorem Parse_unk (w : World) (hT : Table w) : Calls Tryd.prog 26 #[.string unk] w fun e w' => e = Ans 0 1048575 0 ∧ Below w.heap.size w w' :=
  Parse_at0 unk 0 1048575 0 w hT (fun w _ => readUnknown_yes w) (by decide)
theorem Parse_per (s : ByteArray) (h : IsPer s) (w : World) (hT : Table w) : Calls Tryd.prog 26 #[.string s] w fun e w' => e = Ans (perF s) (perL s) 0 ∧ Below w.heap.size w w' :=
  Parse_at1 s 0 0 3 (perF s) (perL s) 0 w hT (fun w _ => readUnknown_no s w h.ne_unk) (fun w hT => by have := readPeriod_any s w hT; rw [h.2.2] at this; exact this) rfl (by decide)
theorem bef_ne (t : ByteArray) : beW ++ t ≠ unk := by
  refine ne_unk (fun c l e => ?_)
  rw [data_append] at e
  cases e
  decide
theorem aft_ne (t : ByteArray) : afW ++ t ≠ unk := by
  refine ne_unk (fun c l e => ?_)
  rw [data_append] at e
  cases e
  decide
theorem Parse_bef (t : ByteArray) (b : Int) (h : IsPer t) (hF : perF t = b + 1) (h0 : 0 ≤ b) (h9 : b < 1048575) (w : World) (hT : Table w) : Calls Tryd.prog 26 #[.string (beW ++ t)] w fun e w' => e = Ans 0 b 0 ∧ Below w.heap.size w w' := by
  have hz := app_size beW t
  have hb : beW.size = 7 := rfl
  have hs := h.1
  obtain ⟨h1, h2⟩ := behind_app beW t
  refine Parse_at2 (beW ++ t) 0 0 3 (perF (beW ++ t)) (perL (beW ++ t)) 3 0 b 0 w hT (fun w _ => readUnknown_no _ w (bef_ne t)) (fun w hT => by have := readPeriod_any (beW ++ t) w hT; rw [perE_size (s := beW ++ t) (by omega) (by omega) (by omega)] at this; exact this) (fun w k hT c0 c1 => ?_) rfl rfl (by decide)
  have hok : okD 0 b := ⟨by omega, by omega, by omega⟩
  have g := word_ok63 beW (beW ++ t) k 0 b (b + 1) (perL t) w hT c0 c1 h2 (by rw [h1]; exact h.2.2) (by rw [h1]; exact hF) (by rw [h1]) (Lib.hid (fun w => by have := rd1_is (b + 1) (perL t) w (by omega) (by omega); rw [show b + 1 - 1 = b by omega] at this; exact this))
  rw [if_pos hok, if_pos hok, if_pos hok] at g
  exact g
theorem aft_per (t : ByteArray) (h : t.size = 4 ∨ t.size = 7 ∨ t.size = 10) : perE (afW ++ t) = 3 := by
  have hz := app_size afW t
  have ha : afW.size = 6 := rfl
  by_cases h10 : (afW ++ t).size = 10
  · unfold perE
    rw [if_neg (by omega), if_neg (by omega), if_pos h10]
    unfold rdE
    refine if_neg (fun hS => ?_)
    obtain ⟨_, _, _, h4, _⟩ := hS
    rw [Lib.extract_data, data_append] at h4
    exact absurd h4 (by simp [okL, afW])
  · exact perE_size (by omega) (by omega) h10
theorem Parse_aft (t : ByteArray) (a : Int) (h : IsPer t) (hL : perL t = a - 1) (h0 : 0 < a) (h9 : a ≤ 1048575) (w : World) (hT : Table w) : Calls Tryd.prog 26 #[.string (afW ++ t)] w fun e w' => e = Ans a 1048575 0 ∧ Below w.heap.size w w' := by
  obtain ⟨h1, h2⟩ := behind_app afW t
  have hn : Lib.hasPrefix (afW ++ t).data.toList beW.data.toList = false := by
    rw [data_append]; rfl
  refine Parse_at3 (afW ++ t) 0 0 3 (perF (afW ++ t)) (perL (afW ++ t)) 3 0 0 3 a 1048575 0 w hT (fun w _ => readUnknown_no _ w (aft_ne t)) (fun w hT => by have := readPeriod_any (afW ++ t) w hT; rw [aft_per t h.1] at this; exact this) (fun w k hT c0 c1 => word_no beW _ k w c0 hn) (fun w k hT c0 c1 => ?_) rfl rfl rfl (by decide)
  have hok : okD a 1048575 := ⟨by omega, by omega, by omega⟩
  have g := word_ok64 afW (afW ++ t) k a 1048575 (perF t) (a - 1) w hT c0 c1 h2 (by rw [h1]; exact h.2.2) (by rw [h1]) (by rw [h1]; exact hL) (Lib.hid (fun w => by have := rd2_is (perF t) (a - 1) w (by omega) (by omega); rw [show a - 1 + 1 = a by omega] at this; exact this))
  rw [if_pos hok, if_pos hok, if_pos hok] at g
  exact g
theorem ib_app (l r : List UInt8) (h : ∀ c ∈ l, c ≠ 47) : Lib.indexByte (l ++ 47 :: r) 47 = (l.length : Int) := by
  induction l with
  | nil => rfl
  | cons b l ih =>
    have hb : (b == 47) = false := by
      rw [beq_eq_false_iff_ne]
      exact h b (List.mem_cons_self)
    have ih' := ih (fun c hc => h c (List.mem_cons_of_mem _ hc))
    show (if b == 47 then (0 : Int) else if Lib.indexByte (l ++ 47 :: r) 47 == -1 then -1 else Lib.indexByte (l ++ 47 :: r) 47 + 1) = _
    rw [hb, ih']
    have h1 : ((l.length : Int) == -1) = false := by
      rw [beq_eq_false_iff_ne]
      omega
    rw [h1]
    simp
theorem pair_data (s t : ByteArray) : (s ++ sl ++ t).data.toList = s.data.toList ++ 47 :: t.data.toList := by
  rw [data_append, data_append]
  simp [sl]
theorem cut_pair (s t : ByteArray) (h : ∀ c ∈ s.data.toList, c ≠ 47) : cutA (s ++ sl ++ t) = s ∧ cutB (s ++ sl ++ t) = t := by
  have hi := ib_app s.data.toList t.data.toList h
  rw [← pair_data] at hi
  have hk : 0 ≤ Lib.indexByte (s ++ sl ++ t).data.toList 47 := by rw [hi]; omega
  have hn : (Lib.indexByte (s ++ sl ++ t).data.toList 47).toNat = s.data.toList.length := by rw [hi]; omega
  unfold cutA cutB
  rw [if_pos hk, if_pos hk, hn]
  constructor
  · apply ByteArray.ext
    apply Array.toList_inj.1
    rw [Lib.extract_data, pair_data]
    simp
  · apply ByteArray.ext
    apply Array.toList_inj.1
    rw [Lib.extract_data, pair_data]
    simp
    have z3 : sl.size = 1 := rfl
    have hl : t.data.toList.length = t.size := by simp
    rw [show s.data.toList ++ 47 :: t.data.toList = (s.data.toList ++ [47]) ++ t.data.toList by simp, List.drop_left' (by simp), List.take_of_length_le (by omega)]
theorem Parse_pair (s t : ByteArray) (a b : Int) (h : IsPer s) (h' : IsPer t) (hF : perF s = a) (hL : perL t = b) (hok : okD a b) (w : World) (hT : Table w) : Calls Tryd.prog 26 #[.string (s ++ sl ++ t)] w fun e w' => e = Ans a b 0 ∧ Below w.heap.size w w' := by
  have z1 := app_size (s ++ sl) t
  have z2 := app_size s sl
  have z3 : sl.size = 1 := rfl
  have g1 := h.1
  have g2 := h'.1
  have hh : ∃ c l, (s ++ sl ++ t).data.toList = c :: l ∧ 48 ≤ c.toNat ∧ c.toNat ≤ 57 := by
    obtain ⟨c, l, e, q⟩ := h.2.1.2
    refine ⟨c, l ++ 47 :: t.data.toList, ?_, q⟩
    rw [pair_data, e]
    rfl
  have hu : s ++ sl ++ t ≠ unk := ne_unk (fun c l e => by
    obtain ⟨c', l', e', q1, q2⟩ := hh
    rw [e'] at e
    cases e
    intro g
    subst g
    simp at q2)
  obtain ⟨cA, cB⟩ := cut_pair s t h.2.1.1
  refine Parse_at4 (s ++ sl ++ t) 0 0 3 (perF (s ++ sl ++ t)) (perL (s ++ sl ++ t)) 3 0 0 3 0 0 3 a b 0 w hT (fun w _ => readUnknown_no _ w hu) (fun w hT => by have := readPeriod_any (s ++ sl ++ t) w hT; rw [perE_size (s := s ++ sl ++ t) (by omega) (by omega) (by omega)] at this; exact this) (fun w k hT c0 c1 => word_no beW _ k w c0 (prefix_no hh (by decide))) (fun w k hT c0 c1 => word_no afW _ k w c0 (prefix_no hh (by decide))) (fun w hT => ?_) rfl rfl rfl rfl (by decide)
  have g := pair_ok (s ++ sl ++ t) 0 a (perL s) 0 (perF t) b w hT (by omega) (by rw [cA]; exact h.2.2) (by rw [cA]; exact hF) (by rw [cA]) (by rw [cB]; exact h'.2.2) (by rw [cB]) (by rw [cB]; exact hL) ⟨rfl, rfl⟩
  rw [if_pos hok, if_pos hok, if_pos hok] at g
  exact g

/-- Parse reads what Format writes. -/
theorem Parse_fmt (a b : Int) (hok : okD a b) (w : World) (hT : Table w) : Calls Tryd.prog 26 #[.string (fmtS a b)] w fun e w' => e = Ans a b 0 ∧ Below w.heap.size w w' := by
  obtain ⟨h1, h2, h3⟩ := hok
  unfold fmtS
  by_cases u : a = 0 ∧ b = 1048575
  · rw [if_pos u]
    obtain ⟨rfl, rfl⟩ := u
    exact Parse_unk w hT
  rw [if_neg u]
  by_cases hj : jusB (dayS a) a b = true
  · rw [if_pos hj]
    obtain ⟨p, q, r⟩ := jus_per a a b h1 (by omega) hj
    have g := Parse_per _ p w hT
    rw [q, r] at g
    exact g
  rw [if_neg hj]
  by_cases a0 : a = 0
  · rw [if_pos a0]
    subst a0
    obtain ⟨p, q⟩ := beg_per (b + 1) (by omega) (by omega)
    exact Parse_bef _ b p q h2 (by omega) w hT
  rw [if_neg a0]
  by_cases b9 : b = 1048575
  · rw [if_pos b9]
    subst b9
    obtain ⟨p, q⟩ := end_per (a - 1) (by omega) (by omega)
    exact Parse_aft _ a p q (by omega) (by omega) w hT
  rw [if_neg b9]
  obtain ⟨p, q⟩ := beg_per a h1 (by omega)
  obtain ⟨p', q'⟩ := end_per b (by omega) h3
  exact Parse_pair _ _ a b p p' q q' ⟨h1, h2, h3⟩ w hT
end Go.Proofs.YtjpiaccpcmlfnaaDoor
