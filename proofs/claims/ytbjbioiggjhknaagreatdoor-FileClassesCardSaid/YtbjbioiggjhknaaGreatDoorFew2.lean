/-
  What a small list of plans is good for. No statement of the seat is proved here.
-/
import Derived.Test.YtbjbioiggjhknaaGreatDoorFq
import Derived.Test.YtbjbioiggjhknaaGreatDoorRfa
namespace Go.Proofs.YtbjbioiggjhknaaGreatDoor
open Go Go.RowKit

theorem fit_few {x : Pln} (h : FewP x) : Fit x := ⟨by have := h.1; omega, by have := h.2.1; omega, fun y hy => by have := h.2.2.1 y hy; exact ⟨by omega, by omega⟩, fun y hy => by have := h.2.2.2 y hy; exact ⟨by omega, by omega⟩⟩
theorem sml_few {x : Pln} (h : FewP x) : Sml x := ⟨by have := h.1; omega, by have := h.2.1; omega, fun y hy => by have := h.2.2.1 y hy; exact ⟨by omega, by omega⟩, fun y hy => by have := h.2.2.2 y hy; exact ⟨by omega, by omega⟩⟩

end Go.Proofs.YtbjbioiggjhknaaGreatDoor
