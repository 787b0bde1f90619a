/-
  slices.Equal at texts, slices.EqualFunc at values, value.Same: the contracts.
-/
import Derived.Test.YtebfggiodhaahaaGreatDoorGZ
import Derived.Lib.QuietBelow
import Derived.BigQuiet
namespace Go.Proofs.YtebfggiodhaahaaGreatDoor
open Go.RowKit Go.Shelf
open Go.Sort (grow)
attribute [local go_sem ↓] eqlO eql_nat neq_nat eql_int5 neq_int5

/-- Lists of texts: the same? -/
def keysEq (a b : List ByteArray) : Bool := decide (a.length = b.length) && (a.zip b).all fun p => p.1.toList == p.2.toList
/-- Lists of values: the same, by a function of each of the first? -/
def kidsEq (fs : List (VT → Bool)) (us : List VT) : Bool := decide (fs.length = us.length) && (fs.zip us).all fun p => p.1 p.2
theorem zip_at {α β : Type} {a : List α} {b : List β} {k : Nat} {x : α} {y : β} (h1 : a[k]? = some x) (h2 : b[k]? = some y) : (a.zip b)[k]? = some (x, y) := by
  rw [List.getElem?_zip_eq_some]; exact ⟨h1, h2⟩
theorem zall_next {α : Type} {l : List α} {p : α → Bool} {k : Nat} {x : α} (h : l[k]? = some x) : (l.take (k + 1)).all p = ((l.take k).all p && p x) := by
  rw [take_next h, List.all_append]; simp
theorem zall_no {α : Type} {l : List α} {p : α → Bool} {k : Nat} {x : α} (h : l[k]? = some x) (hp : p x = false) : l.all p = false := by
  rw [Bool.eq_false_iff]
  intro ha
  rw [List.all_eq_true.1 ha x (List.mem_of_getElem? h)] at hp
  cases hp
theorem keysEq_no {a b : List ByteArray} {k : Nat} {x y : ByteArray} (h1 : a[k]? = some x) (h2 : b[k]? = some y) (h : (x.toList == y.toList) = false) : keysEq a b = false := by
  unfold keysEq
  rw [zall_no (zip_at h1 h2) h, Bool.and_false]
theorem keysEq_yes {a b : List ByteArray} {k : Nat} (hl : a.length = b.length) (hk : a.length ≤ k) (h : (((a.zip b).take k).all fun p => p.1.toList == p.2.toList) = true) : keysEq a b = true := by
  unfold keysEq
  rw [decide_eq_true hl, Bool.true_and]
  rwa [List.take_of_length_le (by rw [List.length_zip]; omega)] at h
theorem kidsEq_no {fs : List (VT → Bool)} {us : List VT} {k : Nat} {f : VT → Bool} {u : VT} (h1 : fs[k]? = some f) (h2 : us[k]? = some u) (h : f u = false) : kidsEq fs us = false := by
  unfold kidsEq
  rw [zall_no (zip_at h1 h2) h, Bool.and_false]
theorem kidsEq_yes {fs : List (VT → Bool)} {us : List VT} {k : Nat} (hl : fs.length = us.length) (hk : fs.length ≤ k) (h : (((fs.zip us).take k).all fun p => p.1 p.2) = true) : kidsEq fs us = true := by
  unfold kidsEq
  rw [decide_eq_true hl, Bool.true_and]
  rwa [List.take_of_length_le (by rw [List.length_zip]; omega)] at h

end Go.Proofs.YtebfggiodhaahaaGreatDoor
