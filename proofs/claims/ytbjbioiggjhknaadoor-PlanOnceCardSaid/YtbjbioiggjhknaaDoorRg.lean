/-
  A range over the parts between dots: the loop's own record, the iterator's box, the body's rounds. No statement of the seat is proved here.
-/
import Derived.Test.YtbjbioiggjhknaaDoorEv
namespace Go.Proofs.YtbjbioiggjhknaaDoor
open Go Go.RowKit Go.Shelf

/-- How a round may be left: it goes on, or it returns. -/
def roundS (bst : Nat) (v : Value) (I : World → Prop) (Ix : World → Prop) (W : World) : Exit → Act → World → Prop
  | .normal, _, W' => KeepsOthers W W' ∧ Boxed W' bst 9 v ∧ I W'
  | .ret, _, W' => KeepsOthers W W' ∧ Boxed W' bst 9 v ∧ Ix W'
  | _, _, _ => False

theorem boxed_put {W : World} {B l : Nat} {t : TypeId} {v : Value} {o : Obj} (o' : Obj) (h : Boxed W B t v) (hl : W.heap[l]? = some o) (ho : o.isCells = false) : Boxed (W.putObj l o') B t v := by
  have hne : B ≠ l := by
    rintro rfl
    rw [show W.heap[B]? = _ from h] at hl; cases hl; cases ho
  exact (World.putObj_heap_other hne).trans h

theorem keep_set (W : World) (b : Nat) (v : Value) {k : Nat} {o : Obj} (hk : W.heap[k]? = some o) (ho : o.isCells = false) : (W.setCell ⟨b, 0, none⟩ v).heap[k]? = some o :=
  (KeepsOthers.setCell W ⟨b, 0, none⟩ v).same k o hk ho

set_option maxHeartbeats 1000000 in
theorem range_split {n : Nat} {g : Operand} {ps : Array Tmp} {assign body : Code} {Q : Exit → Act → World → Prop} {a : Act} {W0 : World} (h1 : 3 ≤ n)
    (bst bsep bsv : Nat) (hg : a.eval g = .func (.func 59) #[] #[.pointer (some ⟨bsep, 0, none⟩), .pointer (some ⟨bst, 0, none⟩), .pointer (some ⟨bsv, 0, none⟩)]) (hps : ps.size = 1)
    (s : ByteArray) (hs : s.size ≤ 140737488355328) (I Ix : List ByteArray → World → Prop) (a₁ : ByteArray → Act)
    (hput : ∀ pre W l o o', W0.heap.size ≤ l → W.heap[l]? = some o → o.isCells = false → I pre W → I pre (W.putObj l o'))
    (hxput : ∀ pre W l o o', W0.heap.size ≤ l → W.heap[l]? = some o → o.isCells = false → Ix pre W → Ix pre (W.putObj l o'))
    (hst : ∀ pre W v u, Boxed W bst 9 u → I pre W → I pre (W.setCell ⟨bst, 0, none⟩ v))
    (hbox : ∀ pre W, I pre W → Boxed W bsep 9 (.string ⟨#[46]⟩) ∧ Boxed W bsv 3 (.int .i64 0))
    (hb0 : Boxed W0 bst 9 (.string s)) (h0 : ∀ o o', I [] ((W0.alloc o).alloc o'))
    (hassign : ∀ (l : Nat) (x : ByteArray) (W : World) (K : Act → World → Prop), K (a₁ x) W →
      assign.wpIn (Fence.wide.inRound l) (n - 1 - 1) Tryd.prog (Exit.then K (fun _ _ _ => False)) { tmps := (ps.zip #[Value.string x]).foldl (fun t (p, v) => t.setIfInBounds p v) a.tmps, defers := [] } W)
    (hbody : ∀ (l : Nat) (pre : List ByteArray) (x : ByteArray) (W : World) (v : Value), x.size ≤ s.size → I pre W → Boxed W bst 9 v → body.wpIn (Fence.wide.inRound l) (n - 1 - 1) Tryd.prog (roundS bst v (I (pre ++ [x])) (Ix (pre ++ [x])) W) (a₁ x) W)
    (hdone : ∀ (ys : List ByteArray) (W : World), ys.map bs = splits (bs s) → I ys W → W.heap[W0.heap.size]? = some (.deferred (some [])) → Q .normal { a with defers := { target := .collected W0.heap.size, args := #[] } :: a.defers } W)
    (hstop : ∀ (pre : List ByteArray) (x : ByteArray) (rest : List (List UInt8)) (W : World), splits (bs s) = pre.map bs ++ bs x :: rest → Ix (pre ++ [x]) W → W.heap[W0.heap.size]? = some (.deferred (some [])) → Code.ret.wpIn Fence.wide n Tryd.prog Q { a with defers := { target := .collected W0.heap.size, args := #[] } :: a.defers } W) :
    (Code.rangeFunc g ps assign body).wpIn Fence.wide n Tryd.prog Q a W0 := by
  refine wpIn_rangeFunc ?_
  intro fn _
  obtain ⟨rec, hrec⟩ : ∃ rec : LoopState → Option Code → Loop, rec = fun st pe => { state := st, pending := pe, fn, tmps := a.tmps, params := ps, assign, body, defers := W0.heap.size } := ⟨_, rfl⟩
  obtain ⟨W1, hW1⟩ : ∃ W1, (W0.alloc (.deferred (some []))).alloc (.loop (rec .ready none)) = W1 := ⟨_, rfl⟩
  have hL1 : W1.heap[W0.heap.size + 1]? = some (.loop (rec .ready none)) := by
    rw [← hW1]; have := World.alloc_heap_new (W0.alloc (.deferred (some []))) (.loop (rec .ready none)); rwa [World.size_alloc] at this
  have hD1 : W1.heap[W0.heap.size]? = some (.deferred (some [])) := by
    rw [← hW1]; exact (Below.heap_alloc _ _ _ (by simp)).trans (World.alloc_heap_new W0 _)
  have hI1 : I [] W1 := by rw [← hW1]; exact h0 _ _
  have hB1 : Boxed W1 bst 9 (.string s) := by rw [← hW1]; exact (hb0.alloc _).alloc _
  refine ⟨W0.heap.size + 1, [{ target := .collected W0.heap.size, args := #[] }], W1, { target := .fn (.func 59) #[.pointer (some ⟨bsep, 0, none⟩), .pointer (some ⟨bst, 0, none⟩), .pointer (some ⟨bsv, 0, none⟩)], args := #[.func (.yield (W0.heap.size + 1)) #[] #[]] }, W1, 59,
    #[.func (.yield (W0.heap.size + 1)) #[] #[], .pointer (some ⟨bsep, 0, none⟩), .pointer (some ⟨bst, 0, none⟩), .pointer (some ⟨bsv, 0, none⟩)], W1, ?_, ?_, fun _ _ => trivial, ?_, fun _ => by omega, ?_⟩
  · rw [← hW1, hrec]; exact run_enterLoop_outer _ _ _ _ _
  · simp only [resolve, hg]
    simp [go_sem]
  · have eg : ∀ args w, (callFunc 59 args).run Tryd.prog w = .ok (.enter 59 args) w := enters_of Tryd.func59 (by kernel_rfl) rfl
    simp [invoke, go_sem, eg]
  · obtain ⟨L, hL⟩ : ∃ L, L = W0.heap.size + 1 := ⟨_, rfl⟩
    obtain ⟨D, hD⟩ : ∃ D, D = W0.heap.size := ⟨_, rfl⟩
    rw [← hL] at hL1 ⊢
    rw [← hD] at hD1
    have neLD : D ≠ L := by omega
    refine (seq_in Tryd.strings_Index_one (n - 1) (by omega) L bsep bst bsv s hs
      (fun pre W => I pre W ∧ (∃ u, Boxed W bst 9 u) ∧ W.heap[L]? = some (.loop (rec .ready none)) ∧ W.heap[D]? = some (.deferred (some [])))
      (fun pre W => Ix pre W ∧ W.heap[L]? = some (.loop (rec .done (some .ret))) ∧ W.heap[D]? = some (.deferred (some [])))
      (fun pre W v ⟨i, ⟨u, hu⟩, hl, hd⟩ => ⟨hst _ _ _ _ hu i, ⟨_, hu.set v⟩, keep_set _ _ _ hl rfl, keep_set _ _ _ hd rfl⟩)
      (fun pre W h => hbox _ _ h.1) ?_ W1 hB1 ⟨hI1, ⟨_, hB1⟩, hL1, hD1⟩).mono ?_
    · rintro pre x W v hx ⟨hi, hbx, hl, hd⟩ hv
      have hlt : L < W.heap.size := (Array.getElem?_eq_some_iff.1 hl).1
      have hy := run_yield (P := Tryd.prog) (args := #[Value.string x]) hl (by rw [hrec]; exact hps.symm)
      rw [hrec] at hy
      refine ⟨fn, _, assign, body, hy, roundIn_of_wpIn trivial (hassign _ x W _ ⟨_, run_beginRound hl (by rw [hrec]), ?_⟩)⟩
      obtain ⟨W2, hW2⟩ : ∃ W2, W2 = W.putObj L (.loop { rec .ready none with state := .busy }) := ⟨_, rfl⟩
      have hl2 : W2.heap[L]? = some (.loop { rec .ready none with state := .busy }) := by rw [hW2]; exact World.putObj_heap_same hlt
      have hd2 : W2.heap[D]? = some (.deferred (some [])) := by rw [hW2]; exact (World.putObj_heap_other neLD).trans hd
      have hi2 : I pre W2 := by rw [hW2]; exact hput _ _ _ _ _ (by omega) hl rfl hi
      have hv2 : Boxed W2 bst 9 v := by rw [hW2]; exact boxed_put _ hv hl rfl
      rw [← hW2]
      refine wpIn_mono (hbody _ pre x W2 v hx hi2 hv2) ?_
      rintro e a3 W3 hp
      cases e with
      | normal =>
        obtain ⟨k3, v3, i3⟩ := hp
        have hl3 := k3.same _ _ hl2 rfl
        have hd3 := k3.same _ _ hd2 rfl
        have he := run_endRound (P := Tryd.prog) none hl3
        refine ⟨_, _, he, boxed_put _ v3 hl3 rfl, .inl ⟨rfl, hput _ _ _ _ _ (by omega) hl3 rfl i3, ⟨_, boxed_put _ v3 hl3 rfl⟩, ?_, (World.putObj_heap_other neLD).trans hd3⟩⟩
        rw [hrec] at hl3 ⊢
        exact World.putObj_heap_same (Array.getElem?_eq_some_iff.1 hl3).1
      | ret =>
        obtain ⟨k3, v3, i3⟩ := hp
        have hl3 := k3.same _ _ hl2 rfl
        have hd3 := k3.same _ _ hd2 rfl
        have he := run_endRound (P := Tryd.prog) (some .ret) hl3
        refine ⟨_, _, he, boxed_put _ v3 hl3 rfl, .inr ⟨rfl, hxput _ _ _ _ _ (by omega) hl3 rfl i3, ?_, (World.putObj_heap_other neLD).trans hd3⟩⟩
        rw [hrec] at hl3 ⊢
        exact World.putObj_heap_same (Array.getElem?_eq_some_iff.1 hl3).1
      | exit id => exact hp.elim
      | goto t => exact hp.elim
      | panic ch => exact hp.elim
      | outgrown => exact hp.elim
    · rintro e W2 ⟨⟨v, rfl⟩, (⟨ys, hys, hi, hbx, hl, hd⟩ | ⟨pre, x, rest, hsp, hi, hl, hd⟩)⟩
      · have he := run_endLoop (P := Tryd.prog) hl (by rw [hrec]; simp)
        have e0 : (rec .ready none).pending = none := by rw [hrec]
        rw [e0] at he
        have h3 := hdone ys _ hys (hput _ _ L _ (.loop { rec .ready none with state := .exhausted, pending := none }) (by omega) hl rfl hi) (by rw [← hD]; exact (World.putObj_heap_other neLD).trans hd)
        exact ⟨none, _, he, h3⟩
      · have he := run_endLoop (P := Tryd.prog) hl (by rw [hrec]; simp)
        have e0 : (rec .done (some .ret)).pending = some .ret := by rw [hrec]
        rw [e0] at he
        have h3 := hstop pre x rest _ hsp (hxput _ _ L _ (.loop { rec .done (some .ret) with state := .exhausted, pending := some .ret }) (by omega) hl rfl hi) (by rw [← hD]; exact (World.putObj_heap_other neLD).trans hd)
        exact ⟨some .ret, _, he, h3⟩

end Go.Proofs.YtbjbioiggjhknaaDoor
