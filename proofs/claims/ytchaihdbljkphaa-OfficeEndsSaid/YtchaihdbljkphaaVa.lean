/-
  The offices of a list without a fault, as the map that valid makes. No statement of the seat is proved here.
-/
import Derived.Test.YtchaihdbljkphaaCh
namespace Go.Proofs.Ytchaihdbljkphaa
open Go Go.RowKit Go.Maps

/-- A map of some offices: none for no offices. -/
def VM (w : World) (v : Value) (m : List Off) : Prop := (v = .map none ∧ m = []) ∨ ∃ b, v = .map (some b) ∧ MapQ w b m m
theorem VM.next {w w' : World} {v : Value} {m : List Off} (h : VM w v m) (hb : Below w.heap.size w w') : VM w' v m := by
  rcases h with h | ⟨b, h1, h2⟩
  · exact .inl h
  · exact .inr ⟨b, h1, h2.next hb⟩
theorem VM.look {w : World} {v : Value} {m : List Off} (h : VM w v m) {n : Int} (hn : I64 n) {x : Off} (hx : fnd m n = some x) :
    (Instr.lookup 51 v (.int .i64 n) true).run Try.prog w = .ok (.tuple #[.agg #[.int .i64 x.id, .string x.nm, .int .i64 x.fr, .int .i64 x.un, .slice x.np x.nx.length x.nc], .bool true]) w := by
  rcases h with ⟨_, rfl⟩ | ⟨b, rfl, h2⟩
  · cases hx
  · exact h2.look (fun _ h => h) hn hx
theorem VM.look1 {w : World} {v : Value} {m : List Off} (h : VM w v m) {n : Int} (hn : I64 n) {x : Off} (hx : fnd m n = some x) :
    (Instr.lookup 51 v (.int .i64 n) false).run Try.prog w = .ok (.agg #[.int .i64 x.id, .string x.nm, .int .i64 x.fr, .int .i64 x.un, .slice x.np x.nx.length x.nc]) w := by
  rcases h with ⟨_, rfl⟩ | ⟨b, rfl, h2⟩
  · cases hx
  · exact h2.look1 (fun _ h => h) hn hx
theorem VM.miss {w : World} {v : Value} {m : List Off} (h : VM w v m) {n : Int} (hn : I64 n) (hx : fnd m n = none) :
    (Instr.lookup 51 v (.int .i64 n) true).run Try.prog w = .ok (.tuple #[.agg #[.int .i64 0, .string ⟨#[]⟩, .int .i64 0, .int .i64 0, .slice none 0 0], .bool false]) w := by
  rcases h with ⟨rfl, rfl⟩ | ⟨b, rfl, h2⟩
  · exact nil_miss w hn
  · exact h2.miss hn hx
/-- .. with what the offices' successors lie in. -/
structure OM (w : World) (v : Value) (m : List Off) : Prop where
  vm : VM w v m
  gd : GoodO m
  ft : ∀ x ∈ m, FitO x
  nx : ∀ x ∈ m, IntsAt w x.np x.nx
theorem OM.next {w w' : World} {v : Value} {m : List Off} (h : OM w v m) (hb : Below w.heap.size w w') : OM w' v m := ⟨h.vm.next hb, h.gd, h.ft, fun x hx => (h.nx x hx).next hb⟩
theorem good_nil : GoodO [] := ⟨by simp, fun i hi => absurd hi (Nat.not_lt_zero _)⟩
open Classical in
/-- The list itself, if it has no fault. -/
noncomputable def gl (l : List Off) : List Off := if GoodO l then l else []
theorem gl_good (l : List Off) : GoodO (gl l) := by
  unfold gl
  split
  · assumption
  · exact good_nil
theorem gl_sub {l : List Off} {x : Off} (h : x ∈ gl l) : x ∈ l := by
  unfold gl at h
  split at h
  · exact h
  · cases h
theorem gl_of {l : List Off} (h : GoodO l) : gl l = l := by unfold gl; rw [if_pos h]
theorem gl_no {l : List Off} (h : ¬ GoodO l) : gl l = [] := by unfold gl; rw [if_neg h]

set_option maxRecDepth 100000 in
set_option maxHeartbeats 4000000 in
theorem valid_any (p : Option Addr) (n c : Nat) (l : List Off) (w : World) (hE : Env w) (hL : OffsAt w p l) (hl : l.length = n) (hF : ∀ x ∈ l, FitO x) :
    Calls Try.prog 30 #[.slice p n c] w fun e w' => ∃ v, e = .returned v ∧ OM w' v (gl l) ∧ Below w.heap.size w w' := by
  obtain ⟨I, E, hIE⟩ := ochk_ex l
  have CK := Lib.hid (Check_any p n c l w hE hL hl hF I E hIE)
  have CH := Lib.hid hIE
  have FF := Lib.hid hF
  have HL := Lib.hid hl
  have LV := Lib.hid (fun (v : World) (h : Below w.heap.size w v) => hL.next h)
  clear hE hL hl hF hIE
  go_enter Try.func30, Try.ntmps30
  go_wp2_with fail
  refine CK.out.mono ?_
  rintro e w1 ⟨rfl, hb⟩
  have N1 := Lib.hid hb
  clear hb CK
  by_cases hz : E = 0
  · have d1 : (E != 0) = false := by simp [hz]
    subst hz
    have G := CH.out.good.1
    have BY := Lib.hid (byID_any p n c l w1 (LV.out w1 N1.out) HL.out (by have := G.1; have := HL.out; omega) FF.out)
    have GG := Lib.hid G
    clear G
    go_wp2_with fail
    refine BY.out.mono ?_
    rintro e w2 ⟨rfl, hM, hb⟩
    have N2 := Lib.hid (N1.out.trans (hb.mono N1.out.size))
    have M2 := Lib.hid hM
    clear hb hM BY
    go_wp2_with fail
    go_ret
    refine ⟨_, rfl, ⟨.inr ⟨_, rfl, by rw [gl_of GG.out]; exact M2.out⟩, gl_good l, fun x hx => FF.out x (gl_sub hx), fun x hx => (LV.out w2 N2.out).ints (gl_sub hx)⟩, N2.out⟩
  · have d1 : (E != 0) = true := by simp [hz]
    have NG := Lib.hid (CH.out.bad hz)
    clear hz
    go_wp2_with fail
    go_ret
    refine ⟨_, rfl, ⟨.inl ⟨rfl, gl_no NG.out⟩, gl_good l, fun x hx => FF.out x (gl_sub hx), fun x hx => (LV.out w1 N1.out).ints (gl_sub hx)⟩, N1.out⟩

end Go.Proofs.Ytchaihdbljkphaa
