/-
  Looking into maps of offices and of numbers. No statement of the seat is proved here.
-/
import Derived.Test.YtchaihdbljkphaaOp
namespace Go.Proofs.Ytchaihdbljkphaa
open Go Go.RowKit Go.Maps

/-- A number that an int holds. -/
def I64 (n : Int) : Prop := -9223372036854775808 ≤ n ∧ n ≤ 9223372036854775807
theorem I64.wf {n : Int} (h : I64 n) : (Lit.int .i64 n).wf = true := WalkArith.wf_i64 ⟨h.1, h.2⟩
theorem key_int {n : Int} (h : I64 n) : keyOf Try.prog 3 (.int .i64 n) = some (.int .i64 n) := keyOf_int_mk Try.underlying3 h.wf
set_option maxRecDepth 100000 in
theorem zero_off (w : World) : (zeroValue 43).run Try.prog w = .ok zOff w := Try.zeroValue43 w
theorem MapQ.look {w : World} {b : Nat} {l m : List Off} (h : MapQ w b l m) (hs : ∀ x ∈ m, x ∈ l) {n : Int} (hn : I64 n) {x : Off} (hx : fnd m n = some x) :
    (Instr.lookup 51 (.map (some b)) (.int .i64 n) true).run Try.prog w = .ok (.tuple #[.agg #[.int .i64 x.id, .string x.nm, .int .i64 x.fr, .int .i64 x.un, .slice x.np x.nx.length x.nc], .bool true]) w := by
  obtain ⟨D, k, h1, _, h3, h4⟩ := h
  obtain ⟨zd, hz⟩ := offR_z l
  obtain ⟨v, ps, hr, hv⟩ := h1.look_ok (t := 51) (e := 43) (int_keyed Try.underlying3) Try.underlying51 (zero_off w) hz (key_int hn)
  rw [h4, hx] at hr
  rw [h3, hx] at hv
  rw [offR_inj hv (offR_mk (hs x (fnd_some hx).1))] at hr
  exact hr
theorem MapQ.look1 {w : World} {b : Nat} {l m : List Off} (h : MapQ w b l m) (hs : ∀ x ∈ m, x ∈ l) {n : Int} (hn : I64 n) {x : Off} (hx : fnd m n = some x) :
    (Instr.lookup 51 (.map (some b)) (.int .i64 n) false).run Try.prog w = .ok (.agg #[.int .i64 x.id, .string x.nm, .int .i64 x.fr, .int .i64 x.un, .slice x.np x.nx.length x.nc]) w := by
  obtain ⟨D, k, h1, _, h3, h4⟩ := h
  obtain ⟨zd, hz⟩ := offR_z l
  obtain ⟨v, ps, hr, hv⟩ := h1.lookup (t := 51) (e := 43) (int_keyed Try.underlying3) Try.underlying51 (zero_off w) hz (key_int hn)
  rw [h3, hx] at hv
  rw [offR_inj hv (offR_mk (hs x (fnd_some hx).1))] at hr
  exact hr
theorem MapQ.miss {w : World} {b : Nat} {l m : List Off} (h : MapQ w b l m) {n : Int} (hn : I64 n) (hx : fnd m n = none) :
    (Instr.lookup 51 (.map (some b)) (.int .i64 n) true).run Try.prog w = .ok (.tuple #[.agg #[.int .i64 0, .string ⟨#[]⟩, .int .i64 0, .int .i64 0, .slice none 0 0], .bool false]) w := by
  obtain ⟨D, k, h1, _, h3, h4⟩ := h
  obtain ⟨zd, hz⟩ := offR_z l
  obtain ⟨v, ps, hr, hv⟩ := h1.look_ok (t := 51) (e := 43) (int_keyed Try.underlying3) Try.underlying51 (zero_off w) hz (key_int hn)
  rw [h4, hx] at hr
  rw [h3, hx] at hv
  rw [offR_inj hv hz] at hr
  exact hr
theorem nil_miss (w : World) {n : Int} (hn : I64 n) :
    (Instr.lookup 51 (.map none) (.int .i64 n) true).run Try.prog w = .ok (.tuple #[.agg #[.int .i64 0, .string ⟨#[]⟩, .int .i64 0, .int .i64 0, .slice none 0 0], .bool false]) w :=
  Maps.look_nil true (int_keyed Try.underlying3) Try.underlying51 (zero_off w) (key_int hn)
set_option maxRecDepth 100000 in
theorem SetM.look {w : World} {b : Nat} {S : List Int} (h : SetM w b S) {n : Int} (hn : I64 n) {B : Bool} (hB : decide (n ∈ S) = B) :
    (Instr.lookup 55 (.map (some b)) (.int .i64 n) false).run Try.prog w = .ok (.bool B) w := by
  obtain ⟨D, k, h1, _, h3, h4⟩ := h
  obtain ⟨v, ps, hr, hv⟩ := h1.lookup (t := 55) (e := 4) (int_keyed Try.underlying3) Try.underlying55 (Try.zeroValue4 w) (plainElem_bool Try.underlying4 false) (key_int hn)
  rw [h3, hB] at hv
  have e : v = .bool B := by
    unfold plainElem at hv
    rw [Try.underlying4] at hv
    cases v <;> simp at hv
    rw [hv.1]
  rw [e] at hr
  exact hr

end Go.Proofs.Ytchaihdbljkphaa
