/-
  entrepotlaw1.NatLaws answers true for all numbers, all shifts: the arithmetic, and the walk. The table internal/strconv.uint64pow10 reads as its initialiser lays it.
-/
import Derived.Test.YtbegblkfdnaloaaDoorLawsWalk
import Derived.Laws.Bits64b
namespace Go.Proofs.YtbegblkfdnaloaaDoor
open Go.RowKit Go.Shelf

theorem lb_low200 (x i : Nat) (hi : i < 3) : lb i (x % 2 ^ 200) = lb i x := by
  have : i = 0 ∨ i = 1 ∨ i = 2 := by omega
  rcases this with rfl | rfl | rfl
  · rw [lb0, lb0]; omega
  · rw [lb1, lb1]; omega
  · rw [lb2, lb2]; omega
theorem and_top (x : Nat) (hx : x < 2 ^ 256) : bits .and .u64 (lb 3 x) 255 = lb 3 (x % 2 ^ 200) := by
  have hn : lb 3 x = ((x / 6277101735386680763835789423207666416102355444464034512896 : Nat) : Int) := by rw [lb3]; omega
  have hl : x / 6277101735386680763835789423207666416102355444464034512896 < 18446744073709551616 := by omega
  rw [hn]
  have h := bits_and_u64_nat (x / 6277101735386680763835789423207666416102355444464034512896) 255 hl (by decide)
  have h2 := Nat.and_two_pow_sub_one_eq_mod (x / 6277101735386680763835789423207666416102355444464034512896) 8
  have e : ((255 : Nat) : Int) = 255 := rfl
  rw [e] at h
  rw [h, show (255 : Nat) = 2 ^ 8 - 1 from rfl, h2, lb3]
  omega
theorem lb_masked (x : Nat) : N4 x = .agg #[.int .u64 (lb 0 (x % 2 ^ 200)), .int .u64 (lb 1 (x % 2 ^ 200)), .int .u64 (lb 2 (x % 2 ^ 200)), .int .u64 (lb 3 x)] := by
  unfold N4
  rw [lb_low200 x 0 (by decide), lb_low200 x 1 (by decide), lb_low200 x 2 (by decide)]
theorem eq4_self (x : Nat) (hx : x < 2 ^ 256) : eq4 (lb 0 x) (lb 1 x) (lb 2 x) (lb 3 x) (lb 0 x) (lb 1 x) (lb 2 x) (lb 3 x) = true := by
  rw [eq4_nat x x hx hx]; exact decide_eq_true rfl
theorem rem51 (k : Int) : 0 ≤ wrap64 ((IntKind.u64.wrap k).tmod 51) ∧ wrap64 ((IntKind.u64.wrap k).tmod 51) ≤ 50 := by
  rw [IntKind.wrap_u64]
  have h0 : 0 ≤ k % 18446744073709551616 := Int.emod_nonneg _ (by decide)
  rw [Int.tmod_eq_emod_of_nonneg h0]
  unfold wrap64
  omega
theorem cmp_both (x y : Nat) : (decide (cmpv x y < 0) == decide (0 < cmpv y x)) = true := by
  unfold cmpv
  rcases Nat.lt_trichotomy x y with h | h | h
  · rw [if_pos (by omega), if_neg (by omega), if_neg (by omega)]; rfl
  · subst h; simp
  · rw [if_neg (by omega), if_neg (by omega), if_pos (by omega)]; rfl
theorem mul_pow_small {x j : Nat} (hx : x < 2 ^ 200) (hj : j ≤ 50) : x * 2 ^ j < 2 ^ 256 := by
  have h1 : x * 2 ^ j ≤ x * 2 ^ 50 := Nat.mul_le_mul_left _ (Nat.pow_le_pow_right (by decide) hj)
  have h2 : x * 2 ^ 50 < 2 ^ 200 * 2 ^ 50 := Nat.mul_lt_mul_of_pos_right hx (by decide)
  omega
theorem laws_any (x y z : Nat) (hx : x < 2 ^ 256) (hy : y < 2 ^ 256) (hz : z < 2 ^ 256) (k : Int) (w : World) (htab : Tab w) :
    Calls Tryd.prog 7 #[N4 x, N4 y, N4 z, .int .i64 k] w fun e w' => e = .returned (.bool true) ∧ Below w.heap.size w w' := by
  rw [lb_masked x, lb_masked y, lb_masked z]
  have ax := and_top x hx; have ay := and_top y hy; have az := and_top z hz
  have bx : x % 2 ^ 200 < 2 ^ 200 := Nat.mod_lt _ (by decide)
  have by' : y % 2 ^ 200 < 2 ^ 200 := Nat.mod_lt _ (by decide)
  have bz : z % 2 ^ 200 < 2 ^ 200 := Nat.mod_lt _ (by decide)
  generalize x % 2 ^ 200 = X at *
  generalize y % 2 ^ 200 = Y at *
  generalize z % 2 ^ 200 = Z at *
  obtain ⟨b0, b1⟩ := rem51 k
  obtain ⟨n, hn⟩ : ∃ n : Nat, wrap64 ((IntKind.u64.wrap k).tmod 51) = (n : Int) := ⟨(wrap64 ((IntKind.u64.wrap k).tmod 51)).toNat, by omega⟩
  rw [hn] at b0 b1
  have k1 := fun W => add_ok X Y (by omega) (by omega) (by omega) W
  have k2 := fun W => add_ok Y X (by omega) (by omega) (by omega) W
  rw [Nat.add_comm Y X] at k2
  have k3 := fun W => add_ok (X + Y) Z (by omega) (by omega) (by omega) W
  have k4 := fun W => add_ok Y Z (by omega) (by omega) (by omega) W
  have k5 := fun W => add_ok X (Y + Z) (by omega) (by omega) (by omega) W
  rw [← Nat.add_assoc] at k5
  have k6 := fun W => sub_ok (X + Y) Y (by omega) (by omega) (by omega) W
  rw [Nat.add_sub_cancel] at k6
  have k7 : ∀ (j : Nat), (j : Int) < (n : Int) → ∀ W, Calls Tryd.prog 20 #[N4 (X * 2 ^ j), .int .u64 2] W fun e w' => e = .returned (.tuple #[N4 (X * 2 ^ (j + 1)), .bool true]) ∧ Below W.heap.size W w' := fun j hj W => by
    have e : X * 2 ^ j * 2 = X * 2 ^ (j + 1) := by rw [Nat.pow_succ, Nat.mul_assoc]
    have := mul_ok (X * 2 ^ j) 2 (mul_pow_small bx (by omega)) (by decide) (by rw [e]; exact mul_pow_small bx (by omega)) W
    rw [e] at this
    exact this
  have hq : X * 2 ^ n < 2 ^ 256 := mul_pow_small bx (by omega)
  have k8 := fun W => shl_ok X n (by omega) hq W
  have k9 := fun W => shr_any (X * 2 ^ n) hq (n : Int) (by omega) W
  rw [Int.toNat_natCast, Nat.mul_div_cancel _ (Nat.two_pow_pos _)] at k9
  have k10 := fun W => cmp_any X Y (by omega) (by omega) W
  have k11 := fun W => cmp_any Y X (by omega) (by omega) W
  exact laws_core X Y Z (X + Y) (X + Y + Z) (Y + Z) (X * 2 ^ n) (fun j => X * 2 ^ j) _ _ _ k (n : Int) _ _ hn (by omega) (by omega) ax ay az (by simp) (by rw [Int.toNat_natCast]) (cmp_both X Y)
    (eq4_self _ (by omega)) (eq4_self _ (by omega)) (eq4_self _ (by omega)) (eq4_self _ hq) k1 k2 k3 k4 k5 k6 k7 k8 k9 k10 k11 w htab

end Go.Proofs.YtbegblkfdnaloaaDoor
