/-
  whole.May, Of, OfUint, Cmp, Next, Prev, ToInt, ToUint: the contracts, said of integers below 2^256 in size, and of the one value that may not be.
-/
import Derived.Test.YtjlgiejggcbgbaaGreatDoorWholeC
import Derived.Test.YtjlgiejggcbgbaaGreatDoorWholeD
import Derived.Test.YtjlgiejggcbgbaaGreatDoorNatAdd
namespace Go.Proofs.YtjlgiejggcbgbaaGreatDoor
open Go.RowKit Go.Shelf

/-- An integer's value. -/
abbrev Iz (z : Int) : Value := I5 (decide (z < 0)) z.natAbs
theorem Iz_nat (n : Nat) : Iz (n : Int) = I5 false n := by
  unfold Iz
  rw [show decide ((n : Int) < 0) = false from decide_eq_false (by omega), Int.natAbs_natCast]
theorem Iz_neg {n : Nat} (h : n ≠ 0) : Iz (-(n : Int)) = I5 true n := by
  unfold Iz
  rw [show decide (-(n : Int) < 0) = true from decide_eq_true (by omega), Int.natAbs_neg, Int.natAbs_natCast]
theorem sgn (z : Int) : (∃ n : Nat, z = n) ∨ (∃ n : Nat, n ≠ 0 ∧ z = -(n : Int)) := by
  by_cases h : 0 ≤ z
  · exact .inl ⟨z.toNat, by omega⟩
  · exact .inr ⟨(-z).toNat, by omega, by omega⟩
/-- Every sign and number is an integer's, or the one that may not be. -/
theorem int_or (g : Bool) (x : Nat) : (∃ z : Int, I5 g x = Iz z ∧ z.natAbs = x) ∨ (g = true ∧ x = 0) := by
  cases g
  · exact .inl ⟨x, (Iz_nat x).symm, by omega⟩
  · by_cases h : x = 0
    · exact .inr ⟨rfl, h⟩
    · exact .inl ⟨-(x : Int), (Iz_neg h).symm, by omega⟩

theorem zq (x : Nat) (hx : x < 2 ^ 256) : eq4 (lb 0 x) (lb 1 x) (lb 2 x) (lb 3 x) 0 0 0 0 = decide (x = 0) := eq4_of x 0 hx (by decide)
theorem may_yes (z : Int) (hz : z.natAbs < 2 ^ 256) (w : World) : Calls Tryz.prog 26 #[Iz z] w fun e w' => e = .returned (.bool true) ∧ Below w.heap.size w w' := by
  refine (may_core _ _ _ _ _ w).mono ?_
  rintro e w' ⟨rfl, o, rfl⟩
  refine ⟨?_, bal (Below.refl _ _) _⟩
  unfold eq5
  rw [zq _ hz]
  congr 2
  by_cases h : z.natAbs = 0
  · have : ¬ z < 0 := by omega
    simp [this]
  · simp; omega
theorem may_no (w : World) : Calls Tryz.prog 26 #[I5 true 0] w fun e w' => e = .returned (.bool false) ∧ Below w.heap.size w w' := by
  refine (may_core _ _ _ _ _ w).mono ?_
  rintro e w' ⟨rfl, o, rfl⟩
  refine ⟨?_, bal (Below.refl _ _) _⟩
  unfold eq5
  rw [zq 0 (by decide)]
  rfl
theorem lb_small {v : Int} (h0 : 0 ≤ v) (h1 : v < 18446744073709551616) : lb 0 v.natAbs = v ∧ lb 1 v.natAbs = 0 ∧ lb 2 v.natAbs = 0 ∧ lb 3 v.natAbs = 0 := by
  rw [lb0, lb1, lb2, lb3]
  refine ⟨by omega, by omega, by omega, by omega⟩
theorem ofUint_z (v : Int) (h0 : 0 ≤ v) (h1 : v < 18446744073709551616) (w : World) : Calls Tryz.prog 73 #[.int .u64 v] w fun e w' => e = .returned (Iz v) ∧ Below w.heap.size w w' := by
  refine (ofUint_any v w).mono ?_
  rintro e w' ⟨rfl, hb⟩
  obtain ⟨l0, l1, l2, l3⟩ := lb_small h0 h1
  refine ⟨?_, hb⟩
  unfold Iz I5
  rw [l0, l1, l2, l3, show decide (v < 0) = false from decide_eq_false (by omega)]
theorem cmp_bad (g : Bool) (x : Nat) (h : Bool) (y : Nat) (hx : x < 2 ^ 256) (hb : (g = true ∧ x = 0) ∨ (h = true ∧ y = 0)) (w : World) :
    Calls Tryz.prog 43 #[I5 g x, I5 h y] w fun e w' => e = .returned (.int .i64 0) ∧ Below w.heap.size w w' := by
  rcases int_or g x with ⟨z, hz, hn⟩ | ⟨rfl, rfl⟩
  · rcases hb with ⟨rfl, rfl⟩ | ⟨rfl, rfl⟩
    · exact cmp_bad1 _ _ _ _ _ _ _ _ _ _ (fun W => may_no W) w
    · refine cmp_bad2 _ _ _ _ _ _ _ _ _ _ (fun W => ?_) (fun W => may_no W) w
      have := may_yes z (by omega) W
      rw [← hz] at this
      exact this
  · exact cmp_bad1 _ _ _ _ _ _ _ _ _ _ (fun W => may_no W) w
theorem cmp_z (y z : Int) (hy : y.natAbs < 2 ^ 256) (hz : z.natAbs < 2 ^ 256) (w : World) :
    Calls Tryz.prog 43 #[Iz y, Iz z] w fun e w' => e = .returned (.int .i64 (cmpv y z)) ∧ Below w.heap.size w w' := by
  have my := fun W => may_yes y hy W
  have mz := fun W => may_yes z hz W
  rcases sgn y with ⟨n, rfl⟩ | ⟨n, hn, rfl⟩ <;> rcases sgn z with ⟨m, rfl⟩ | ⟨m, hm, rfl⟩
  · rw [Iz_nat n] at my ⊢; rw [Iz_nat m] at mz ⊢
    exact cmp_pp _ _ _ _ _ _ _ _ _ my mz (fun W => cmp_any n m (by omega) (by omega) W) w
  · rw [Iz_nat n] at my ⊢; rw [Iz_neg hm] at mz ⊢
    refine (cmp_pn _ _ _ _ _ _ _ _ my mz w).mono ?_
    rintro e w' ⟨rfl, hb⟩
    exact ⟨by unfold cmpv; rw [if_neg (by omega), if_neg (by omega)], hb⟩
  · rw [Iz_neg hn] at my ⊢; rw [Iz_nat m] at mz ⊢
    refine (cmp_np _ _ _ _ _ _ _ _ my mz w).mono ?_
    rintro e w' ⟨rfl, hb⟩
    exact ⟨by unfold cmpv; rw [if_pos (by omega)], hb⟩
  · rw [Iz_neg hn] at my ⊢; rw [Iz_neg hm] at mz ⊢
    refine (cmp_nn _ _ _ _ _ _ _ _ _ my mz (fun W => cmp_any m n (by omega) (by omega) W) w).mono ?_
    rintro e w' ⟨rfl, hb⟩
    refine ⟨?_, hb⟩
    congr 2
    unfold cmpv
    rcases Nat.lt_trichotomy n m with h | h | h
    · rw [if_neg (by omega), if_neg (by omega), if_neg (by omega), if_neg (by omega)]
    · subst h; simp
    · rw [if_pos (by omega), if_pos (by omega)]

theorem N4_one : N4 1 = .agg #[.int .u64 1, .int .u64 0, .int .u64 0, .int .u64 0] := by
  unfold N4
  rw [show lb 0 1 = 1 from by rw [lb0]; decide, show lb 1 1 = 0 from by rw [lb1]; decide, show lb 2 1 = 0 from by rw [lb2]; decide, show lb 3 1 = 0 from by rw [lb3]; decide]
/-- A tuple of a whole number and whether there is one. -/
def Znum (z : Int) : Value := if z.natAbs < 2 ^ 256 then .tuple #[Iz z, .bool true] else .tuple #[Z5, .bool false]
theorem lbz : lb 0 0 = 0 ∧ lb 1 0 = 0 ∧ lb 2 0 = 0 ∧ lb 3 0 = 0 := ⟨lb_zero 0, lb_zero 1, lb_zero 2, lb_zero 3⟩
theorem next_z (z : Int) (hz : z.natAbs < 2 ^ 256) (w : World) :
    Calls Tryz.prog 74 #[Iz z] w fun e w' => e = .returned (Znum (z + 1)) ∧ Below w.heap.size w w' := by
  rcases sgn z with ⟨n, rfl⟩ | ⟨n, hn, rfl⟩
  · rw [Iz_nat]
    by_cases h : n + 1 < 2 ^ 256
    · have k := fun W => add_ok n 1 (by omega) (by decide) h W
      simp only [N4_one] at k
      refine (next_pos _ _ _ _ _ _ _ _ _ k w).mono ?_
      rintro e w' ⟨rfl, hb⟩
      refine ⟨?_, hb⟩
      unfold Znum
      rw [if_pos (by omega), show (n : Int) + 1 = ((n + 1 : Nat) : Int) from by omega, Iz_nat]
    · have k := fun W => add_over n 1 (by omega) (by decide) h W
      simp only [N4_one] at k
      refine (next_pos _ _ _ _ _ _ _ _ _ k w).mono ?_
      rintro e w' ⟨rfl, hb⟩
      refine ⟨?_, hb⟩
      unfold Znum
      obtain ⟨l0, l1, l2, l3⟩ := lbz
      rw [if_neg (by omega), l0, l1, l2, l3]
  · rw [Iz_neg hn]
    have k := fun W => sub_ok n 1 (by omega) (by decide) (by omega) W
    simp only [N4_one] at k
    refine (next_neg _ _ _ _ _ _ _ _ _ k w).mono ?_
    rintro e w' ⟨rfl, hb⟩
    refine ⟨?_, hb⟩
    unfold Znum
    rw [if_pos (by omega), zq _ (by omega)]
    by_cases h1 : n = 1
    · subst h1; rfl
    · rw [show -(n : Int) + 1 = -((n - 1 : Nat) : Int) from by omega, Iz_neg (by omega), decide_eq_false (by omega)]
      rfl
theorem next_bad (w : World) : Calls Tryz.prog 74 #[I5 true 0] w fun e w' => e = .returned (.tuple #[Z5, .bool false]) ∧ Below w.heap.size w w' := by
  have k := fun W => sub_under 0 1 (by decide) (by decide) (by omega) W
  simp only [N4_one] at k
  refine (next_neg _ _ _ _ _ _ _ _ _ k w).mono ?_
  rintro e w' ⟨rfl, hb⟩
  refine ⟨?_, hb⟩
  obtain ⟨l0, l1, l2, l3⟩ := lbz
  rw [l0, l1, l2, l3]
  rfl
end Go.Proofs.YtjlgiejggcbgbaaGreatDoor
