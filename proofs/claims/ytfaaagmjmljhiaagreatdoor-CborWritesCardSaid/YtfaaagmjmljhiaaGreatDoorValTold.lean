/-
  entrepotlaw6.told answers true, wherever the table of package math/bits lies.
-/
import Derived.Test.YtfaaagmjmljhiaaGreatDoorValNumber
import Derived.Test.YtfaaagmjmljhiaaGreatDoorValLoops
import Derived.Test.YtfaaagmjmljhiaaGreatDoorShelf
namespace Go.Proofs.YtfaaagmjmljhiaaGreatDoor
open Go.RowKit Go.Shelf
attribute [local go_sem ↓] eql_nat neq_nat eql_int5 neq_int5

/-- A value of a kind and a number alone. -/
def leafT (k : Int) (x : Nat) : VT := .mk ⟨k, false, x, 0, ⟨#[]⟩, none, 0, none, 0, []⟩ []
theorem leafT_in (k : Int) (x : Nat) (hk : -100 ≤ k ∧ k ≤ 100) (hx : x < 2 ^ 256) (w : World) : (leafT k x).In w :=
  .mk _ _ ⟨⟨by show _ ≤ k; omega, by show k ≤ _; omega⟩, hx, ⟨Int.le_refl _, by show (0 : Int) ≤ _; omega⟩, Nat.zero_le _, ⟨Nat.le_refl _, Nat.zero_le _⟩, ⟨Nat.le_refl _, Nat.zero_le _⟩, fun s h => by cases h⟩
    ⟨0, 0, fun h => absurd h (by simp), fun i s h => by simp at h⟩ ⟨0, 0, fun h => absurd h (by simp), fun i s h => by simp at h⟩ (fun i t h => by simp at h)
theorem leafT_q (k : Int) (x : Nat) (hk : -100 ≤ k ∧ k ≤ 100) (hx : x < 2 ^ 256) (w : World) (hT : Tb w) : Qv (leafT k x) w :=
  ⟨leafT_in k x hk hx w, hT, .mk _ _ ⟨Nat.zero_le _, fun s h => by cases h⟩ (fun t h => by cases h)⟩
theorem leafT_nodes (k : Int) (x : Nat) : (leafT k x).nodes = 1 := by unfold leafT; rw [VT.nodes_mk]; rfl
theorem leafT_depth (k : Int) (x : Nat) : (leafT k x).depth = 1 := by unfold leafT; rw [VT.depth_mk]; rfl
theorem leafT_has (p : VT → Bool) (k : Int) (x : Nat) : hasT p (leafT k x) = p (leafT k x) := by rw [hasT_mk]; simp [leafT]
theorem leafT_may (k : Int) (x : Nat) (q : Bool) (ho : overT (leafT k x) = false) (hq : ownB (leafT k x).o 0 = q) : mayN (leafT k x) = if q then 0 else 1 := by
  unfold mayN
  rw [leafT_depth, if_neg (by omega), leafT_has, ho, if_neg (by simp), leafT_has]
  have : wrongT (leafT k x) = !q := by rw [← hq]; rfl
  rw [this]
  cases q <;> simp
theorem eqO_same (k : Int) (g : Bool) (a0 a1 a2 a3 b : Int) (s : ByteArray) (m n : Int) : eqO k g a0 a1 a2 a3 b s m n k g a0 a1 a2 a3 b s m n = true := by simp [eqO, eq5, eq4]
theorem null_may : mayN (leafT 1 0) = 0 := by
  refine leafT_may 1 0 true (by decide) ?_
  have : outB (leafT 1 0).o 0 = true := by
    show eqO 1 false (lb 0 0) (lb 1 0) (lb 2 0) (lb 3 0) 0 ⟨#[]⟩ ((0 : Nat) : Int) ((0 : Nat) : Int) 1 false 0 0 0 0 0 ⟨#[]⟩ ((0 : Nat) : Int) ((0 : Nat) : Int) = true
    simp only [lb_zero]
    exact eqO_same _ _ _ _ _ _ _ _ _ _
  unfold ownB
  rw [this]
  rfl
theorem zero_may : mayN (leafT 0 0) = 1 := by
  refine leafT_may 0 0 false (by decide) ?_
  unfold ownB
  rw [show restB (leafT 0 0).o 0 = false by rfl]
  simp
theorem one_may : mayN (leafT 3 1) = 0 := by
  refine leafT_may 3 1 true (by decide) ?_
  have : outB (leafT 3 1).o 0 = true := by
    show eqO 3 false (lb 0 1) (lb 1 1) (lb 2 1) (lb 3 1) 0 ⟨#[]⟩ ((0 : Nat) : Int) ((0 : Nat) : Int) 3 false (lb 0 1) (lb 1 1) (lb 2 1) (lb 3 1) 0 ⟨#[]⟩ ((0 : Nat) : Int) ((0 : Nat) : Int) = true
    exact eqO_same _ _ _ _ _ _ _ _ _ _
  unfold ownB
  rw [this]
  show (true && okI false 1) = true
  simp [okI, eq5]
theorem null_proto : inB (leafT 1 0) 3 = false := by
  unfold inB
  rw [null_may]
  simp [leafT]
theorem one_json : inB (leafT 3 1) 1 = true := by
  unfold inB
  rw [one_may, leafT_has]
  rw [if_pos rfl, if_pos rfl]
  rw [show notJsonT (leafT 3 1) = false by rfl]
  rfl
theorem leaf_val (k : Int) (x : Nat) : (leafT k x).val = V10 k false (lb 0 x) (lb 1 x) (lb 2 x) (lb 3 x) 0 ⟨#[]⟩ none 0 0 none 0 0 := rfl
theorem wend_one : WEnd 4607182418800017408 = .tuple #[.agg #[.bool false, .int .u64 1, .int .u64 0, .int .u64 0, .int .u64 0], .bool true] := by kernel_rfl

end Go.Proofs.YtfaaagmjmljhiaaGreatDoor
