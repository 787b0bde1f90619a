/-
  ValSame ValSameT, one behind the other: a claim holds at most 60 files.
-/
import Derived.Test.YtpgpodjmdflmeaaGreatDoorValFew
import Derived.Lib.QuietBelow
import Derived.BigQuiet
section
namespace Go.Proofs.YtpgpodjmdflmeaaGreatDoor
open Go.RowKit Go.Shelf
open Go.Sort (grow)
attribute [local go_sem ↓] eqlO eql_nat neq_nat eql_int5 neq_int5

/-- Lists of texts: the same? -/
def keysEq (a b : List ByteArray) : Bool := decide (a.length = b.length) && (a.zip b).all fun p => p.1.toList == p.2.toList
/-- Lists of values: the same, by a function of each of the first? -/
def kidsEq (fs : List (VT → Bool)) (us : List VT) : Bool := decide (fs.length = us.length) && (fs.zip us).all fun p => p.1 p.2
theorem zip_at {α β : Type} {a : List α} {b : List β} {k : Nat} {x : α} {y : β} (h1 : a[k]? = some x) (h2 : b[k]? = some y) : (a.zip b)[k]? = some (x, y) := by
  rw [List.getElem?_zip_eq_some]; exact ⟨h1, h2⟩
theorem zall_next {α : Type} {l : List α} {p : α → Bool} {k : Nat} {x : α} (h : l[k]? = some x) : (l.take (k + 1)).all p = ((l.take k).all p && p x) := by
  rw [take_next h, List.all_append]; simp
theorem zall_no {α : Type} {l : List α} {p : α → Bool} {k : Nat} {x : α} (h : l[k]? = some x) (hp : p x = false) : l.all p = false := by
  rw [Bool.eq_false_iff]
  intro ha
  rw [List.all_eq_true.1 ha x (List.mem_of_getElem? h)] at hp
  cases hp
theorem keysEq_no {a b : List ByteArray} {k : Nat} {x y : ByteArray} (h1 : a[k]? = some x) (h2 : b[k]? = some y) (h : (x.toList == y.toList) = false) : keysEq a b = false := by
  unfold keysEq
  rw [zall_no (zip_at h1 h2) h, Bool.and_false]
theorem keysEq_yes {a b : List ByteArray} {k : Nat} (hl : a.length = b.length) (hk : a.length ≤ k) (h : (((a.zip b).take k).all fun p => p.1.toList == p.2.toList) = true) : keysEq a b = true := by
  unfold keysEq
  rw [decide_eq_true hl, Bool.true_and]
  rwa [List.take_of_length_le (by rw [List.length_zip]; omega)] at h
theorem keysEq_len {a b : List ByteArray} (hl : a.length ≠ b.length) : keysEq a b = false := by unfold keysEq; rw [decide_eq_false hl]; rfl

theorem kidsEq_len {fs : List (VT → Bool)} {us : List VT} (hl : fs.length ≠ us.length) : kidsEq fs us = false := by unfold kidsEq; rw [decide_eq_false hl]; rfl
theorem kidsEq_no {fs : List (VT → Bool)} {us : List VT} {k : Nat} {f : VT → Bool} {u : VT} (h1 : fs[k]? = some f) (h2 : us[k]? = some u) (h : f u = false) : kidsEq fs us = false := by
  unfold kidsEq
  rw [zall_no (zip_at h1 h2) h, Bool.and_false]
theorem kidsEq_yes {fs : List (VT → Bool)} {us : List VT} {k : Nat} (hl : fs.length = us.length) (hk : fs.length ≤ k) (h : (((fs.zip us).take k).all fun p => p.1 p.2) = true) : kidsEq fs us = true := by
  unfold kidsEq
  rw [decide_eq_true hl, Bool.true_and]
  rwa [List.take_of_length_le (by rw [List.length_zip]; omega)] at h

end Go.Proofs.YtpgpodjmdflmeaaGreatDoor
end
section
namespace Go.Proofs.YtpgpodjmdflmeaaGreatDoor
open Go.RowKit Go.Shelf
open Go.Sort (grow)
attribute [local go_sem ↓] eqlO

theorem row10_new2 (w : World) (o : Obj) (v0 v1 v2 v3 v4 v5 v6 v7 v8 v9 : Value) : Row10 ((w.alloc o).alloc (.cells #[v0, v1, v2, v3, v4, v5, v6, v7, v8, v9] 32)) (w.heap.size + 1) v0 v1 v2 v3 v4 v5 v6 v7 v8 v9 := by
  have h := Row10.new (w.alloc o) v0 v1 v2 v3 v4 v5 v6 v7 v8 v9
  have hs : (w.alloc o).heap.size = w.heap.size + 1 := by simp
  rwa [hs] at h
/-- Are two values the same in all parts? -/
def sameT : VT → VT → Bool
  | .mk o l, U => eqO o.kind o.g (lb 0 o.x) (lb 1 o.x) (lb 2 o.x) (lb 3 o.x) o.bits o.text (o.keys.length : Int) (l.length : Int) U.o.kind U.o.g (lb 0 U.o.x) (lb 1 U.o.x) (lb 2 U.o.x) (lb 3 U.o.x) U.o.bits U.o.text (U.o.keys.length : Int) (U.kids.length : Int) &&
      (keysEq o.keys U.o.keys && kidsEq (l.map fun k => sameT k) U.kids)
end Go.Proofs.YtpgpodjmdflmeaaGreatDoor
end
