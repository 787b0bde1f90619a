/-
  value.Depth, value.Nodes: the contracts, for every value that lies in memory (less than a million nodes).
-/
import Derived.Test.YtfaaagmjmljhiaaGreatDoorValSpec
import Derived.Deep.LoopGhost
namespace Go.Proofs.YtfaaagmjmljhiaaGreatDoor
open Go.RowKit Go.Shelf

/-- The ten cells of an element, loaded. -/
theorem load10 {W : World} {b p : Nat} {T : VT} (h : Cells10 W b p T) : Sem.run Tryz.prog (loadCellsFrom ⟨b, p, none⟩ 0 10 #[]) W = .ok T.cells.toArray W := by
  have := run_loadCells_list (P := Tryz.prog) (w := W) ⟨b, p, none⟩ T.cells (fun j u hu => by
    have := h j u hu
    rwa [Go.WideShapes.add_plain])
  rw [T.cells_length] at this
  simpa [loadCells] using this
theorem ret_int {k : IntKind} {a b : Int} (h : a = b) : Ending.returned (.int k a) = .returned (.int k b) := by rw [h]
theorem kid_at {kids : List VT} {k : Nat} (h : k < kids.length) : ∃ t, kids[k]? = some t ∧ t ∈ kids := ⟨kids[k], List.getElem?_eq_getElem h, List.getElem_mem h⟩


/-- What a walk over a value's list asks of the list. -/
structure Kids (w : World) (la : Option Addr) (kids : List VT) (bb off : Nat) : Prop where
  la : 0 < kids.length → la = some ⟨bb, off, none⟩
  cells : ∀ (i : Nat) (t : VT), kids[i]? = some t → Cells10 w bb (off + i * 10) t
  ins : ∀ (i : Nat) (t : VT), kids[i]? = some t → t.In w
  len : kids.length ≤ 9223372036854775807
theorem Kids.keep {w w' : World} {la : Option Addr} {kids : List VT} {bb off : Nat} (h : Kids w la kids bb off) (hb : Below w.heap.size w w') : Kids w' la kids bb off :=
  ⟨h.la, fun i t hi => (h.cells i t hi).keep hb, fun i t hi => (h.ins i t hi).keep hb, h.len⟩
theorem VT.In.kids' {w : World} {o : Own} {l : List VT} (h : (VT.mk o l).In w) : ∃ bb off, Kids w o.la l bb off := by
  obtain ⟨bb, off, h1, h2⟩ := h.hl
  obtain ⟨_, _, _, _, ⟨h3, h4⟩, _, _⟩ := h.wf
  unfold maxLen at h4
  exact ⟨bb, off, h1, h2, fun i t hi => h.kid (T := VT.mk o l) hi, by simp only [VT.o_mk, VT.kids_mk] at h3 h4; omega⟩

end Go.Proofs.YtfaaagmjmljhiaaGreatDoor
