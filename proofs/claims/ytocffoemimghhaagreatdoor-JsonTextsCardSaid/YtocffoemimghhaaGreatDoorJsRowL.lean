/-
  A slice of ints and a slice of bools as parameters.
-/
import Derived.Test.YtocffoemimghhaaGreatDoorJsRow
import Derived.Deep.Grids
namespace Go.Proofs.YtocffoemimghhaaGreatDoor
open Go.ChangeShapes Go.WideShapes Go.ChangeAt Go.RowKit

/-- A slice of ints that is there. -/
def IntsAt (w : World) (v : Value) (zs : List Int) : Prop :=
  (∃ A cap, v = .slice A 0 cap ∧ zs = []) ∨ ∃ b off cap, v = .slice (some ⟨b, off, none⟩) zs.length cap ∧ 0 < zs.length ∧ ∀ i, i < zs.length → w.cell? ⟨b, off + i, none⟩ = some (.int .i64 (zs.getD i 0))
set_option maxRecDepth 100000 in
theorem open_intv {H : Type} {enc : TypeId × Value → H} {W : World} {base : Nat} {r : Reach} {b : Nat} {v : Value} {d : DataW H} {p : List MemPlace}
    (hv : Value.okWide Tryz.prog W r b 38 v) (h : DataW.Trod enc Tryz.prog W base (fun _ => true) true 38 v d p) : ∃ zs : List Int, IntsAt W v zs ∧ zs.length ≤ maxLen ∧ ∀ n ∈ zs, -9223372036854775808 ≤ n ∧ n ≤ 9223372036854775807 := by
  obtain ⟨a0, len0, cap0, rfl⟩ := okWide_slice (show Tryz.prog.underlying 38 = some (.slice 3) by kernel_rfl) hv
  obtain ⟨fuel, hf⟩ := h
  rcases open_ints (show Tryz.prog.underlying 38 = some (.slice 3) by kernel_rfl) (show Tryz.prog.underlying 3 = some (.int .i64) by kernel_rfl) (by kernel_rfl) hf with ⟨h1, _⟩ | ⟨a, len, cap, zs, h1, _, h3, h4, h5, _, h7, h8⟩
  · simp [Value.cells] at h1
    exact ⟨[], Or.inl ⟨a0, cap0, by rw [h1.2.1], rfl⟩, Nat.zero_le _, fun _ h => by cases h⟩
  · simp [Value.cells] at h1
    obtain ⟨rfl, rfl, rfl⟩ := h1
    rw [if_pos rfl] at h5
    have hl : (zs.take len0).length = len0 := by rw [List.length_take]; omega
    refine ⟨zs.take len0, ?_, by omega, fun n hn => bounds_i64 (h8 n (List.mem_of_mem_take hn))⟩
    by_cases h0 : len0 = 0
    · subst h0
      exact Or.inl ⟨some a, cap0, rfl, by simp⟩
    · obtain ⟨b, off, rfl, hc⟩ := ints_at h7 (by omega)
      refine Or.inr ⟨b, off, cap0, by rw [hl], by omega, fun i hi => ?_⟩
      rw [hc i (by omega)]
      congr 2
      rw [List.getD_eq_getElem?_getD, List.getD_eq_getElem?_getD, List.getElem?_take, if_pos (by omega)]
theorem bools_at {w : World} {a : Addr} {n : Nat} {B : Nat → Bool} (h : ∀ i, i < n → w.cell? (a.add i) = some (.bool (B i))) (hp : 0 < n) :
    ∃ b off, a = ⟨b, off, none⟩ ∧ ∀ j, j < n → w.cell? ⟨b, off + j, none⟩ = some (.bool (B j)) := by
  obtain ⟨b, off, spot⟩ := a
  have hspot : spot = none := by simpa [Addr.add] using World.cell?_spot (h 0 hp)
  subst hspot
  exact ⟨b, off, rfl, fun j hj => by rw [← Go.WideShapes.add_plain]; exact h j hj⟩
set_option maxRecDepth 100000 in
theorem open_boolv {H : Type} {enc : TypeId × Value → H} {W : World} {base : Nat} {r : Reach} {b : Nat} {v : Value} {d : DataW H} {p : List MemPlace}
    (hv : Value.okWide Tryz.prog W r b 39 v) (h : DataW.Trod enc Tryz.prog W base (fun _ => true) true 39 v d p) : ∃ (B : Option Addr) (m hcap : Nat) (bs : Nat → Bool), v = .slice B m hcap ∧ m ≤ maxLen ∧ ∀ i, i < m → ∃ bb off, B = some ⟨bb, off, none⟩ ∧ W.cell? ⟨bb, off + i, none⟩ = some (.bool (bs i)) := by
  obtain ⟨a0, len0, cap0, rfl⟩ := okWide_slice (show Tryz.prog.underlying 39 = some (.slice 4) by kernel_rfl) hv
  obtain ⟨fuel, hf⟩ := h
  rcases Go.Deep.open_bools (show Tryz.prog.underlying 39 = some (.slice 4) by kernel_rfl) (show Tryz.prog.underlying 4 = some .bool by kernel_rfl) (by kernel_rfl) hf with ⟨h1, _⟩ | ⟨a, len, cap, B, h1, _, h3, h4, _, h7⟩
  · simp [Value.cells] at h1
    obtain ⟨rfl, rfl, rfl⟩ := h1
    exact ⟨none, 0, 0, fun _ => false, rfl, Nat.zero_le _, fun i hi => absurd hi (Nat.not_lt_zero i)⟩
  · simp [Value.cells] at h1
    obtain ⟨rfl, rfl, rfl⟩ := h1
    refine ⟨some a, len0, cap0, B, rfl, by omega, fun i hi => ?_⟩
    obtain ⟨b, off, rfl, hc⟩ := bools_at (n := cap0) h7 (by omega)
    exact ⟨b, off, rfl, hc i (by omega)⟩
end Go.Proofs.YtocffoemimghhaaGreatDoor
