/-
  Rows of one's own that grow by append, and blocks of ten cells that are stored into: facts on memory. No walk.
-/
import Derived.Test.YtebfggiodhaahaaGreatDoorGV
import Derived.Test.YtebfggiodhaahaaGreatDoorValOver
import Derived.Deep.OwnRows
import Derived.Lib.QuietBelow
import Derived.BigQuiet
import Derived.Deep.AppendLies
namespace Go.Proofs.YtebfggiodhaahaaGreatDoor
open Go.RowKit Go.Shelf
open Go.Sort (grow)

theorem info_at {t : TypeId} {z : Value} {n b : Nat} (h : (Tryz.prog.info? t).map (fun i => (i.zero, i.size, i.bytes)) = some (some z, n, b)) : ∃ i, Tryz.prog.info? t = some i ∧ i.zero = some z ∧ i.size = n ∧ i.bytes = b := by
  cases hi : Tryz.prog.info? t with
  | none => rw [hi] at h; cases h
  | some i => rw [hi] at h; simp at h; exact ⟨i, rfl, h.1, h.2.1, h.2.2⟩
theorem Row10.set8 {W : World} {b : Nat} {v0 v1 v2 v3 v4 v5 v6 v7 v8 v9 : Value} (h : Row10 W b v0 v1 v2 v3 v4 v5 v6 v7 v8 v9) (u : Value) : Row10 (W.setCell ⟨b, 8, none⟩ u) b v0 v1 v2 v3 v4 v5 v6 v7 u v9 := by
  have := heap_setCell_same W b 8 _ _ u h
  simpa [Row10] using this
theorem Row10.grown {W W' : World} {r : Option Nat} {b : Nat} {v0 v1 v2 v3 v4 v5 v6 v7 v8 v9 : Value} (h : Row10 W b v0 v1 v2 v3 v4 v5 v6 v7 v8 v9) (hg : W.grownBy W' r) (hne : some b ≠ r) : Row10 W' b v0 v1 v2 v3 v4 v5 v6 v7 v8 v9 :=
  (hg.block b h.lt hne).trans h
theorem und_vals : Tryz.prog.underlying 29 = some (.slice 32) := by kernel_rfl
theorem info_val : (Tryz.prog.info? 32).map (fun i => (i.zero, i.size, i.bytes)) = some (some (V10 0 false 0 0 0 0 0 ⟨#[]⟩ none 0 0 none 0 0), 10, 120) := by kernel_rfl
def newsV (l : List VT) : List Value := l.flatMap VT.cells
theorem addr_add (b p j : Nat) : (⟨b, p, none⟩ : Addr).add j = ⟨b, p + j, none⟩ := by unfold Addr.add; split <;> simp_all
end Go.Proofs.YtebfggiodhaahaaGreatDoor
