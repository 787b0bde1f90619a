/-
  value.Same: the contract.
-/
import Derived.Test.YtebfggiodhaahaaGreatDoorValSame
namespace Go.Proofs.YtebfggiodhaahaaGreatDoor
open Go.RowKit Go.Shelf
open Go.Sort (grow)
attribute [local go_sem ↓] eqlO

theorem row10_new2 (w : World) (o : Obj) (v0 v1 v2 v3 v4 v5 v6 v7 v8 v9 : Value) : Row10 ((w.alloc o).alloc (.cells #[v0, v1, v2, v3, v4, v5, v6, v7, v8, v9] 32)) (w.heap.size + 1) v0 v1 v2 v3 v4 v5 v6 v7 v8 v9 := by
  have h := Row10.new (w.alloc o) v0 v1 v2 v3 v4 v5 v6 v7 v8 v9
  have hs : (w.alloc o).heap.size = w.heap.size + 1 := by simp
  rwa [hs] at h
/-- Are two values the same in all parts? -/
def sameT : VT → VT → Bool
  | .mk o l, U => eqO o.kind o.g (lb 0 o.x) (lb 1 o.x) (lb 2 o.x) (lb 3 o.x) o.bits o.text (o.keys.length : Int) (l.length : Int) U.o.kind U.o.g (lb 0 U.o.x) (lb 1 U.o.x) (lb 2 U.o.x) (lb 3 U.o.x) U.o.bits U.o.text (U.o.keys.length : Int) (U.kids.length : Int) &&
      (keysEq o.keys U.o.keys && kidsEq (l.map fun k => sameT k) U.kids)
end Go.Proofs.YtebfggiodhaahaaGreatDoor
