/-
  WholeA WholeB WholeC WholeD WholeE WholeF WholeG WholeH, one behind the other: a claim holds at most 60 files.
-/
import Derived.Test.YtfaaagmjmljhiaaGreatDoorIntBase
import Derived.Test.YtfaaagmjmljhiaaGreatDoorNatCmp
import Derived.Lib.ItoaWalk
import Derived.Test.YtfaaagmjmljhiaaGreatDoorGL
import Derived.Test.YtfaaagmjmljhiaaGreatDoorNatAdd
import Derived.Lib.QuietBelow
import Derived.BigQuiet
section
namespace Go.Proofs.YtfaaagmjmljhiaaGreatDoor
open Go.RowKit Go.Shelf
attribute [local go_sem ↓] eql_nat neq_nat eql_int5 neq_int5

theorem may_core (g : Bool) (x0 x1 x2 x3 : Int) (w : World) :
    Calls Tryz.prog 48 #[.agg #[.bool g, .int .u64 x0, .int .u64 x1, .int .u64 x2, .int .u64 x3]] w fun e w' => e = .returned (.bool (!eq5 g x0 x1 x2 x3 true 0 0 0 0)) ∧ ∃ o : Obj, w' = w.alloc o := by
  go_enter Tryz.func48, Tryz.ntmps48
  go_wp2
  go_ret
  exact ⟨rfl, _, rfl⟩

theorem ofUint_any (v : Int) (w : World) :
    Calls Tryz.prog 69 #[.int .u64 v] w fun e w' => e = .returned (.agg #[.bool false, .int .u64 v, .int .u64 0, .int .u64 0, .int .u64 0]) ∧ Below w.heap.size w w' := by
  go_enter Tryz.func69, Tryz.ntmps69
  go_wp2_with fail
  refine (of_any _ _).mono ?_
  rintro e w1 ⟨rfl, hb⟩
  have R : Row5 w1 w.heap.size (.bool false) (.int .u64 0) (.int .u64 0) (.int .u64 0) (.int .u64 0) := Row5.keep hb (Row5.new w _ _ _ _ _)
  obtain ⟨c0, c1, c2, c3, c4⟩ := R.parts
  obtain ⟨f0, f1, f2, f3, f4⟩ := R.free
  have B := btr (bal (Below.refl _ w) _) hb
  clear hb R
  go_wp2
  exact bodyPost_ret (v := .agg #[.bool false, .int .u64 v, .int .u64 0, .int .u64 0, .int .u64 0]) (by simp [results, Tryz.results69, go_sem, c0, c1, c2, c3, c4]) rfl ⟨rfl, bsc5 B (by omega) _ _ _ _ _⟩

end Go.Proofs.YtfaaagmjmljhiaaGreatDoor
end
section
namespace Go.Proofs.YtfaaagmjmljhiaaGreatDoor
open Go.RowKit Go.Shelf
attribute [local go_sem ↓] eql_nat neq_nat eql_int5 neq_int5

end Go.Proofs.YtfaaagmjmljhiaaGreatDoor
end
section
namespace Go.Proofs.YtfaaagmjmljhiaaGreatDoor
open Go.RowKit Go.Shelf
attribute [local go_sem ↓] eql_nat neq_nat eql_int5 neq_int5

end Go.Proofs.YtfaaagmjmljhiaaGreatDoor
end
section
namespace Go.Proofs.YtfaaagmjmljhiaaGreatDoor
open Go.RowKit Go.Shelf
attribute [local go_sem ↓] eql_nat neq_nat eql_int5 neq_int5

end Go.Proofs.YtfaaagmjmljhiaaGreatDoor
end
section
namespace Go.Proofs.YtfaaagmjmljhiaaGreatDoor
open Go.RowKit Go.Shelf

/-- An integer's value. -/
abbrev Iz (z : Int) : Value := I5 (decide (z < 0)) z.natAbs
theorem Iz_nat (n : Nat) : Iz (n : Int) = I5 false n := by
  unfold Iz
  rw [show decide ((n : Int) < 0) = false from decide_eq_false (by omega), Int.natAbs_natCast]
theorem Iz_neg {n : Nat} (h : n ≠ 0) : Iz (-(n : Int)) = I5 true n := by
  unfold Iz
  rw [show decide (-(n : Int) < 0) = true from decide_eq_true (by omega), Int.natAbs_neg, Int.natAbs_natCast]
theorem sgn (z : Int) : (∃ n : Nat, z = n) ∨ (∃ n : Nat, n ≠ 0 ∧ z = -(n : Int)) := by
  by_cases h : 0 ≤ z
  · exact .inl ⟨z.toNat, by omega⟩
  · exact .inr ⟨(-z).toNat, by omega, by omega⟩
/-- Every sign and number is an integer's, or the one that may not be. -/
theorem int_or (g : Bool) (x : Nat) : (∃ z : Int, I5 g x = Iz z ∧ z.natAbs = x) ∨ (g = true ∧ x = 0) := by
  cases g
  · exact .inl ⟨x, (Iz_nat x).symm, by omega⟩
  · by_cases h : x = 0
    · exact .inr ⟨rfl, h⟩
    · exact .inl ⟨-(x : Int), (Iz_neg h).symm, by omega⟩

theorem zq (x : Nat) (hx : x < 2 ^ 256) : eq4 (lb 0 x) (lb 1 x) (lb 2 x) (lb 3 x) 0 0 0 0 = decide (x = 0) := eq4_of x 0 hx (by decide)
theorem may_yes (z : Int) (hz : z.natAbs < 2 ^ 256) (w : World) : Calls Tryz.prog 48 #[Iz z] w fun e w' => e = .returned (.bool true) ∧ Below w.heap.size w w' := by
  refine (may_core _ _ _ _ _ w).mono ?_
  rintro e w' ⟨rfl, o, rfl⟩
  refine ⟨?_, bal (Below.refl _ _) _⟩
  unfold eq5
  rw [zq _ hz]
  congr 2
  by_cases h : z.natAbs = 0
  · have : ¬ z < 0 := by omega
    simp [this]
  · simp; omega
theorem may_no (w : World) : Calls Tryz.prog 48 #[I5 true 0] w fun e w' => e = .returned (.bool false) ∧ Below w.heap.size w w' := by
  refine (may_core _ _ _ _ _ w).mono ?_
  rintro e w' ⟨rfl, o, rfl⟩
  refine ⟨?_, bal (Below.refl _ _) _⟩
  unfold eq5
  rw [zq 0 (by decide)]
  rfl
theorem lb_small {v : Int} (h0 : 0 ≤ v) (h1 : v < 18446744073709551616) : lb 0 v.natAbs = v ∧ lb 1 v.natAbs = 0 ∧ lb 2 v.natAbs = 0 ∧ lb 3 v.natAbs = 0 := by
  rw [lb0, lb1, lb2, lb3]
  refine ⟨by omega, by omega, by omega, by omega⟩
theorem ofUint_z (v : Int) (h0 : 0 ≤ v) (h1 : v < 18446744073709551616) (w : World) : Calls Tryz.prog 69 #[.int .u64 v] w fun e w' => e = .returned (Iz v) ∧ Below w.heap.size w w' := by
  refine (ofUint_any v w).mono ?_
  rintro e w' ⟨rfl, hb⟩
  obtain ⟨l0, l1, l2, l3⟩ := lb_small h0 h1
  refine ⟨?_, hb⟩
  unfold Iz I5
  rw [l0, l1, l2, l3, show decide (v < 0) = false from decide_eq_false (by omega)]
theorem N4_one : N4 1 = .agg #[.int .u64 1, .int .u64 0, .int .u64 0, .int .u64 0] := by
  unfold N4
  rw [show lb 0 1 = 1 from by rw [lb0]; decide, show lb 1 1 = 0 from by rw [lb1]; decide, show lb 2 1 = 0 from by rw [lb2]; decide, show lb 3 1 = 0 from by rw [lb3]; decide]
/-- A tuple of a whole number and whether there is one. -/
def Znum (z : Int) : Value := if z.natAbs < 2 ^ 256 then .tuple #[Iz z, .bool true] else .tuple #[Z5, .bool false]
theorem lbz : lb 0 0 = 0 ∧ lb 1 0 = 0 ∧ lb 2 0 = 0 ∧ lb 3 0 = 0 := ⟨lb_zero 0, lb_zero 1, lb_zero 2, lb_zero 3⟩
end Go.Proofs.YtfaaagmjmljhiaaGreatDoor
end
section
namespace Go.Proofs.YtfaaagmjmljhiaaGreatDoor
open Go.RowKit Go.Shelf

theorem Iz_flip (z : Int) (hz : z.natAbs < 2 ^ 256) : (.agg #[.bool (!decide (z < 0) && !eq4 (lb 0 z.natAbs) (lb 1 z.natAbs) (lb 2 z.natAbs) (lb 3 z.natAbs) 0 0 0 0), .int .u64 (lb 0 z.natAbs), .int .u64 (lb 1 z.natAbs), .int .u64 (lb 2 z.natAbs), .int .u64 (lb 3 z.natAbs)] : Value) = Iz (-z) := by
  rw [zq _ hz]
  unfold Iz I5
  rw [Int.natAbs_neg]
  have e : (!decide (z < 0) && !decide (z.natAbs = 0)) = decide (-z < 0) := by
    by_cases h : -z < 0
    · rw [decide_eq_true h]; simp; omega
    · rw [decide_eq_false h]
      by_cases h2 : z < 0
      · simp [h2]
      · have : z = 0 := by omega
        subst this; rfl
  rw [e]
theorem Iz_zero : Iz 0 = Z5 := by
  obtain ⟨l0, l1, l2, l3⟩ := lbz
  show I5 (decide ((0 : Int) < 0)) 0 = Z5
  unfold I5
  rw [l0, l1, l2, l3]; rfl
/-- What is told of a number of 64 bits. -/
def Znt (k : IntKind) (z : Int) (b : Bool) : Value := if b then .tuple #[.int k z, .bool true] else .tuple #[.int k 0, .bool false]
theorem low_tuple (x : Nat) (hx : x < 2 ^ 256) (W : World) : Calls Tryz.prog 84 #[N4 x] W fun e w' => e = .returned (.tuple #[.int .u64 (if x < 18446744073709551616 then (x : Int) else 0), .bool (decide (x < 18446744073709551616))]) ∧ Below W.heap.size W w' := by
  refine (low_any x hx W).mono ?_
  rintro e w' ⟨rfl, hb⟩
  refine ⟨?_, hb⟩
  split <;> simp [*]
theorem eq5_Iz (y z : Int) (hy : y.natAbs < 2 ^ 256) (hz : z.natAbs < 2 ^ 256) : eq5 (decide (y < 0)) (lb 0 y.natAbs) (lb 1 y.natAbs) (lb 2 y.natAbs) (lb 3 y.natAbs) (decide (z < 0)) (lb 0 z.natAbs) (lb 1 z.natAbs) (lb 2 z.natAbs) (lb 3 z.natAbs) = decide (y = z) := by
  rw [eq5_int _ _ _ _ hy hz]
  by_cases h : y = z
  · subst h; simp
  · rw [decide_eq_false h]
    apply decide_eq_false
    rintro ⟨h1, h2⟩
    have : (y < 0) ↔ (z < 0) := by simpa using h1
    omega
theorem eq5_bad (y : Int) (hy : y.natAbs < 2 ^ 256) : eq5 (decide (y < 0)) (lb 0 y.natAbs) (lb 1 y.natAbs) (lb 2 y.natAbs) (lb 3 y.natAbs) true (lb 0 0) (lb 1 0) (lb 2 0) (lb 3 0) = false := by
  rw [eq5_int _ _ _ _ hy (by decide)]
  apply decide_eq_false
  rintro ⟨h1, h2⟩
  have : y < 0 := by simpa using h1
  omega
theorem wrap64_bd (x : Int) : -9223372036854775808 ≤ wrap64 x ∧ wrap64 x < 9223372036854775808 := by unfold wrap64; omega
end Go.Proofs.YtfaaagmjmljhiaaGreatDoor
end
section
namespace Go.Proofs.YtfaaagmjmljhiaaGreatDoor
open Go.RowKit Go.Shelf
open Go.Sort (grow)
attribute [local go_sem ↓] eql_nat neq_nat eql_int5 neq_int5

end Go.Proofs.YtfaaagmjmljhiaaGreatDoor
end
section
namespace Go.Proofs.YtfaaagmjmljhiaaGreatDoor
open Go.RowKit Go.Shelf

/-- Has a float of 64 bits that number? -/
def exq (x : Nat) : Bool := decide ((blen x : Int) - (tz x : Int) ≤ 53)
/-- The nearest number from z on, upward, that is exact. -/
def eup (z : Int) : Int :=
  if exq z.natAbs then z
  else if 0 ≤ z then (((z.natAbs / 2 ^ (blen z.natAbs - 53) + 1) * 2 ^ (blen z.natAbs - 53) : Nat) : Int)
  else -((z.natAbs / 2 ^ (blen z.natAbs - 53) * 2 ^ (blen z.natAbs - 53) : Nat) : Int)
/-- The nearest number from z on, upward, that is not exact. -/
def rup (z : Int) : Int := if exq z.natAbs then (if z.natAbs ≤ 9007199254740992 then 9007199254740993 else z + 1) else z

theorem tz_le {x : Nat} (h : x < 2 ^ 256) : tz x ≤ 256 := by
  by_cases h0 : x = 0
  · subst h0; decide
  · have := (tz_spec h0 h).2; omega
theorem may_z (z : Int) (hz : z.natAbs < 2 ^ 256) : ∀ W, Calls Tryz.prog 48 #[Iz z] W fun e w' => e = .returned (.bool true) ∧ Below W.heap.size W w' := fun W => may_yes z hz W
theorem blen_exq {x : Nat} (h : exq x = false) : 53 < blen x := by
  unfold exq at h
  have := of_decide_eq_false h
  omega
theorem Znum_Z5 {z : Int} (h : ¬ z.natAbs < 2 ^ 256) : Znum z = .tuple #[Z5, .bool false] := by unfold Znum; rw [if_neg h]
theorem Znum_of {z : Int} (h : z.natAbs < 2 ^ 256) : Znum z = .tuple #[Iz z, .bool true] := by unfold Znum; rw [if_pos h]

theorem N4_small (v : Nat) (h : v < 18446744073709551616) : N4 v = .agg #[.int .u64 (v : Int), .int .u64 0, .int .u64 0, .int .u64 0] := by
  unfold N4
  obtain ⟨l0, l1, l2, l3⟩ := lb_small (v := (v : Int)) (by omega) (by omega)
  rw [Int.natAbs_natCast] at l0 l1 l2 l3
  rw [l0, l1, l2, l3]
end Go.Proofs.YtfaaagmjmljhiaaGreatDoor
end
