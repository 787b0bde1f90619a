/-
  How long a float's decimals are at most.
-/
import Derived.Test.YtebfggiodhaahaaGreatDoorGP
namespace Go.Proofs.YtebfggiodhaahaaGreatDoor
open Go.RowKit Go.Shelf

theorem ptx_len {b : Nat} (hc : cls b = 1) : (ptx b).length ≤ 400 := by
  obtain ⟨d, m, K, hd, hK1, hK2, hB, hl, ho, hw, hf⟩ := plain_parts hc
  have hd0 : d ≠ 0 := by omega
  have hdl := dstr_le (five_fit (odd_small hd0 hl) hK2)
  rw [dstr_size] at hdl
  have hp := padl_len (Lib.decDigits (d * 5 ^ K)) K
  unfold ptx wpt
  rw [ho, hB, List.length_append, List.length_append, List.length_append, List.length_take, List.length_drop]
  simp only [List.length_cons, List.length_nil]
  split <;> simp only [List.length_cons, List.length_nil] <;> omega
end Go.Proofs.YtebfggiodhaahaaGreatDoor
