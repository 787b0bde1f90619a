/-
  entrepotref6.own, Right, long, May: the contracts.
-/
import Derived.Test.YtjdogiehcgfmjaaDoorR6Map
import Derived.Test.YtjdogiehcgfmjaaDoorValFew
namespace Go.Proofs.YtjdogiehcgfmjaaDoor
open Go.RowKit Go.Shelf

theorem txt_empty (s : ByteArray) : (s.toList == (⟨#[]⟩ : ByteArray).toList) = s.toList.isEmpty := by
  rw [show (⟨#[]⟩ : ByteArray).toList = [] from (Lib.toList_data _).trans rfl]
  cases s.toList <;> rfl
theorem beq_self_int (x : Int) : (x == x) = true := beq_self_eq_true x
theorem le_one (b : Int) : decide (b ≤ 1) = !decide (1 < b) := by rw [Bool.eq_iff_iff]; simp
theorem len_beq (m n : Nat) : ((m : Int) == (n : Int)) = decide (m = n) := by rw [Bool.eq_iff_iff]; simp; omega
/-- A predicate of no kid. -/
theorem hasT_no (p : VT → Bool) {o : Own} {kids : List VT} (h0 : p (.mk o kids) = false) (h : kids.any (hasT p) = false) : hasT p (.mk o kids) = false := by rw [hasT_mk, h0, VT.kids_mk, h]; rfl
theorem hasT_kid (p : VT → Bool) {o : Own} {kids : List VT} {t : VT} (ht : t ∈ kids) (h : hasT p t = true) : hasT p (.mk o kids) = true := by
  rw [hasT_mk, VT.kids_mk, List.any_eq_true.2 ⟨t, ht, h⟩, Bool.or_true]
end Go.Proofs.YtjdogiehcgfmjaaDoor
