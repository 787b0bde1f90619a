/-
  What the plain rows share: a slice of ints as a parameter, opened.
-/
import Derived.Test.YtoibaeilbolffaaRows
import Derived.WalkKit
import Derived.ProofKit
import Derived.OpenShut
import Derived.Carry
import Derived.ChangeSlices
namespace Go.Proofs.Ytoibaeilbolffaa
open Go.ChangeShapes Go.WideShapes Go.ChangeAt Go.RowKit

theorem own : ownKnob Try.prog.godebug = none := by kernel_rfl
theorem Try.laid0 : laidOutB Try.prog = true := by kernel_rfl
/-- A slice of ints that is there. -/
def IntsAt (w : World) (v : Value) (zs : List Int) : Prop :=
  (∃ A cap, v = .slice A 0 cap ∧ zs = []) ∨ ∃ b off cap, v = .slice (some ⟨b, off, none⟩) zs.length cap ∧ 0 < zs.length ∧ ∀ i, i < zs.length → w.cell? ⟨b, off + i, none⟩ = some (.int .i64 (zs.getD i 0))
theorem trod_lt' {H : Type} {enc : TypeId × Value → H} {P : Program} {W : World} {base : Nat} {sp : Nat → Bool} {held : Bool} {t : TypeId} {v : Value} {d : DataW H} {p : List MemPlace}
    (h : DataW.Trod enc P W base sp held t v d p) : ∀ x ∈ p, x.block < W.heap.size := by
  obtain ⟨fuel, hf⟩ := h
  exact DataW.trod_lt fuel _ _ _ hf
theorem open_intv {H : Type} {enc : TypeId × Value → H} {W : World} {base : Nat} {r : Reach} {b : Nat} {v : Value} {d : DataW H} {p : List MemPlace}
    (hv : Value.okWide Try.prog W r b 30 v) (h : DataW.Trod enc Try.prog W base (fun _ => true) true 30 v d p) : ∃ zs : List Int, IntsAt W v zs ∧ zs.length ≤ maxLen ∧ ∀ n ∈ zs, -9223372036854775808 ≤ n ∧ n ≤ 9223372036854775807 := by
  obtain ⟨a0, len0, cap0, rfl⟩ := okWide_slice (show Try.prog.underlying 30 = some (.slice 3) by kernel_rfl) hv
  obtain ⟨fuel, hf⟩ := h
  rcases open_ints (show Try.prog.underlying 30 = some (.slice 3) by kernel_rfl) (show Try.prog.underlying 3 = some (.int .i64) by kernel_rfl) (by kernel_rfl) hf with ⟨h1, _⟩ | ⟨a, len, cap, zs, h1, _, h3, h4, h5, _, h7, h8⟩
  · simp [Value.cells] at h1
    exact ⟨[], Or.inl ⟨a0, cap0, by rw [h1.2.1], rfl⟩, Nat.zero_le _, fun _ h => by cases h⟩
  · simp [Value.cells] at h1
    obtain ⟨rfl, rfl, rfl⟩ := h1
    rw [if_pos rfl] at h5
    have hl : (zs.take len0).length = len0 := by rw [List.length_take]; omega
    refine ⟨zs.take len0, ?_, by omega, fun n hn => bounds_i64 (h8 n (List.mem_of_mem_take hn))⟩
    by_cases h0 : len0 = 0
    · subst h0
      exact Or.inl ⟨some a, cap0, rfl, by simp⟩
    · obtain ⟨b, off, rfl, hc⟩ := ints_at h7 (by omega)
      refine Or.inr ⟨b, off, cap0, by rw [hl], by omega, fun i hi => ?_⟩
      rw [hc i (by omega)]
      congr 2
      rw [List.getD_eq_getElem?_getD, List.getD_eq_getElem?_getD, List.getElem?_take, if_pos (by omega)]
end Go.Proofs.Ytoibaeilbolffaa
