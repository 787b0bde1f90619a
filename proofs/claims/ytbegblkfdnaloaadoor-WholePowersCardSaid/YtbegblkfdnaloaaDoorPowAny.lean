/-
  entrepotlaw2.WholePowers answers true for all exponents, either sign: the arithmetic, and the walk. The tables math/bits.deBruijn64tab, internal/strconv.uint64pow10 read as their initialisers lay them.
-/
import Derived.Test.YtbegblkfdnaloaaDoorPowWalk
namespace Go.Proofs.YtbegblkfdnaloaaDoor
open Go.RowKit Go.Shelf
set_option linter.unusedVariables false

theorem exact_i5 (g : Bool) (x : Nat) (h0 : x ≠ 0) (hx : x < 2 ^ 256) (w : World) (hT : Tb w) :
    Calls Tryd.prog 71 #[I5 g x] w fun e w' => e = .returned (.bool (exq x)) ∧ Below w.heap.size w w' := by
  cases g
  · have := exact_z (x : Int) (by omega) w hT
    rw [Iz_nat, Int.natAbs_natCast] at this
    exact this
  · have := exact_z (-(x : Int)) (by omega) w hT
    rw [Iz_neg h0, Int.natAbs_neg, Int.natAbs_natCast] at this
    exact this
theorem wrap_pow (r : Nat) (hr : r < 64) : IntKind.u64.wrap ((2 : Int) ^ r) = ((2 ^ r : Nat) : Int) := by
  have h := wrap_mul_pow 1 r
  rw [Nat.one_mul] at h
  have e : ((1 : Nat) : Int) * 2 ^ r = 2 ^ r := by omega
  rw [e] at h
  rw [h]
  have : 2 ^ r < 2 ^ 64 := Nat.pow_lt_pow_right (by decide) hr
  rw [Nat.mod_eq_of_lt this]
theorem pow_word (r : Nat) (hr : r < 64) : 2 ^ r < 18446744073709551616 := by
  have : 2 ^ r < 2 ^ 64 := Nat.pow_lt_pow_right (by decide) hr
  omega
theorem or_zero (r : Nat) (hr : r < 64) : bits .or .u64 0 (IntKind.u64.wrap ((2 : Int) ^ r)) = ((2 ^ r : Nat) : Int) := by
  rw [wrap_pow r hr]
  have := u64_or_nat 0 (2 ^ r) (by decide) (pow_word r hr)
  rw [Nat.zero_or] at this
  exact this
theorem or_two (r s : Nat) (hr : r < 64) (hs : s < r) : bits .or .u64 ((2 ^ r : Nat) : Int) (IntKind.u64.wrap ((2 : Int) ^ s)) = ((2 ^ r + 2 ^ s : Nat) : Int) := by
  rw [wrap_pow s (by omega), u64_or_nat _ _ (pow_word r hr) (pow_word s (by omega))]
  have := Nat.two_pow_add_eq_or_of_lt (i := r) (b := 2 ^ s) (Nat.pow_lt_pow_right (by decide) hs) 1
  rw [Nat.mul_one] at this
  rw [this]
theorem or_same (r : Nat) (hr : r < 64) : bits .or .u64 ((2 ^ r : Nat) : Int) (IntKind.u64.wrap ((2 : Int) ^ r)) = ((2 ^ r : Nat) : Int) := by
  rw [wrap_pow r hr, u64_or_nat _ _ (pow_word r hr) (pow_word r hr), Nat.or_self]
theorem exq_pow {I : Nat} (h : I < 256) : exq (2 ^ I) = true := by
  have h1 : blen (2 ^ I) = I + 1 := blen_unique (by omega) (by exact Nat.le_refl _) (Nat.pow_lt_pow_right (by decide) (by omega))
  have h2 : tz (2 ^ I) = I := tz_unique (m := 0) (Nat.pow_lt_pow_right (by decide) h) (by omega)
  unfold exq
  rw [h1, h2]
  exact decide_eq_true (by omega)
theorem sum_lt {I J : Nat} (hJ : J < I) : 2 ^ I + 2 ^ J < 2 ^ (I + 1) := by
  have := Nat.pow_lt_pow_right (a := 2) (by decide) hJ
  rw [Nat.pow_succ]; omega
theorem exq_sum {I J : Nat} (h : I < 256) (hJ : J < I) : exq (2 ^ I + 2 ^ J) = decide ((I : Int) - J ≤ 52) := by
  have hs := sum_lt hJ
  have hp : 2 ^ (I + 1) ≤ 2 ^ 256 := Nat.pow_le_pow_right (by decide) (by omega)
  have h1 : blen (2 ^ I + 2 ^ J) = I + 1 := blen_unique (by omega) (by show 2 ^ I ≤ _; exact Nat.le_add_right _ _) hs
  have h2 : tz (2 ^ I + 2 ^ J) = J := by
    refine tz_unique (m := 2 ^ (I - J - 1)) (Nat.lt_of_lt_of_le hs hp) ?_
    rw [Nat.mul_add, ← Nat.mul_assoc, Nat.mul_comm _ 2, Nat.mul_assoc, ← Nat.pow_add, Nat.mul_one]
    have e : 2 ^ I = 2 * 2 ^ (J + (I - J - 1)) := by
      have e1 : I = J + (I - J - 1) + 1 := by omega
      conv => lhs; rw [e1]
      rw [Nat.pow_succ, Nat.mul_comm]
    rw [e]
  unfold exq
  rw [h1, h2]
  congr 1
  apply propext
  omega
theorem pow_split {I q : Nat} (h : I / 64 = q) : 2 ^ I = 2 ^ (64 * q) * 2 ^ (I % 64) := by
  rw [← Nat.pow_add]; congr 1; omega
theorem word_nat {n : Nat} (h : n < 18446744073709551616) : Word (n : Int) := by unfold Word; omega
theorem word_zero : Word 0 := by unfold Word; omega

theorem rem_bound (a : Int) : 0 ≤ wrap64 ((IntKind.u64.wrap a).tmod 256) ∧ wrap64 ((IntKind.u64.wrap a).tmod 256) ≤ 255 := by
  rw [IntKind.wrap_u64]
  have h0 : 0 ≤ a % 18446744073709551616 := Int.emod_nonneg _ (by decide)
  rw [Int.tmod_eq_emod_of_nonneg h0]
  unfold wrap64
  omega

theorem pow_case_00_lt (a b i0 j0 : Int) (I J : Nat) (neg : Bool) (hi : wrap64 ((IntKind.u64.wrap a).tmod 256) = i0) (hj : wrap64 ((IntKind.u64.wrap b).tmod 256) = j0) (ho : (j0 ≤ i0 ∧ i0 = (I : Int) ∧ j0 = (J : Int)) ∨ (i0 < j0 ∧ i0 = (J : Int) ∧ j0 = (I : Int)))
    (hJI : J ≤ I) (hI : I < 256) (hqi : I / 64 = 0) (hqj : J / 64 = 0) (hc : J < I) (w : World) (hT : Tabs w) :
    Calls Tryd.prog 15 #[.int .i64 a, .int .i64 b, .bool neg] w fun e w' => e = .returned (.bool true) ∧ Below w.heap.size w w' := by
  have hrI : I % 64 < 64 := Nat.mod_lt _ (by decide)
  have hrJ : J % 64 < 64 := Nat.mod_lt _ (by decide)
  have eI := pow_split hqi
  have eJ := pow_split hqj
  have fI : 2 ^ I < 2 ^ 256 := Nat.pow_lt_pow_right (by decide) hI
  have fJ : 2 ^ J < 2 ^ 256 := Nat.pow_lt_pow_right (by decide) (by omega)
  have pI := Nat.two_pow_pos I
  have tI : (((I : Int) % 64).toNat) = I % 64 := by omega
  have tJ : (((J : Int) % 64).toNat) = J % 64 := by omega
  have hlt : J % 64 < I % 64 := by omega
  have hS : 2 ^ (I % 64) + 2 ^ (J % 64) < 18446744073709551616 := by
    have h1 := Nat.pow_lt_pow_right (a := 2) (by decide) hlt
    have h2 := Nat.pow_le_pow_right (n := 2) (by decide) (show I % 64 + 1 ≤ 64 by omega)
    rw [Nat.pow_succ] at h2
    omega
  have f2 : 2 ^ I + 2 ^ J < 2 ^ 256 := Nat.lt_of_lt_of_le (sum_lt (I := I) (by omega)) (Nat.pow_le_pow_right (by decide) (by omega))
  have L1 := lb_of (z := 2 ^ I) (word_nat (pow_word _ hrI)) (word_zero) (word_zero) (word_zero) (by unfold val4; omega)
  have L2 := lb_of (z := 2 ^ I + 2 ^ J) (word_nat hS) (word_zero) (word_zero) (word_zero) (by unfold val4; omega)
  have k1 := fun W hW => exact_i5 neg (2 ^ I) (by omega) fI W hW
  rw [exq_pow hI] at k1
  simp only [I5, L1.1, L1.2.1, L1.2.2.1, L1.2.2.2] at k1
  have k2 := fun W hW => exact_i5 neg (2 ^ I + 2 ^ J) (by omega) (by omega) W hW
  have eq : exq (2 ^ I + 2 ^ J) = decide ((I : Int) - (J : Int) ≤ 52) := exq_sum hI (by omega)
  rw [eq] at k2
  simp only [I5, L2.1, L2.2.1, L2.2.2.1, L2.2.2.2] at k2
  exact pow_00 a b i0 j0 (I : Int) (J : Int) ((2 ^ (I % 64) : Nat) : Int) ((2 ^ (I % 64) + 2 ^ (J % 64) : Nat) : Int) neg hi hj ho (by omega) (by omega) (by omega) (by omega) (by omega) (by rw [tI]; exact or_zero _ hrI)
    (by rw [tJ]; exact or_two _ _ hrI hlt) k1 k2 w hT
theorem pow_case_00_eq (a b i0 j0 : Int) (I J : Nat) (neg : Bool) (hi : wrap64 ((IntKind.u64.wrap a).tmod 256) = i0) (hj : wrap64 ((IntKind.u64.wrap b).tmod 256) = j0) (ho : (j0 ≤ i0 ∧ i0 = (I : Int) ∧ j0 = (J : Int)) ∨ (i0 < j0 ∧ i0 = (J : Int) ∧ j0 = (I : Int)))
    (hJI : J ≤ I) (hI : I < 256) (hqi : I / 64 = 0) (hqj : J / 64 = 0) (hc : J = I) (w : World) (hT : Tabs w) :
    Calls Tryd.prog 15 #[.int .i64 a, .int .i64 b, .bool neg] w fun e w' => e = .returned (.bool true) ∧ Below w.heap.size w w' := by
  have hrI : I % 64 < 64 := Nat.mod_lt _ (by decide)
  have hrJ : J % 64 < 64 := Nat.mod_lt _ (by decide)
  have eI := pow_split hqi
  have eJ := pow_split hqj
  have fI : 2 ^ I < 2 ^ 256 := Nat.pow_lt_pow_right (by decide) hI
  have fJ : 2 ^ J < 2 ^ 256 := Nat.pow_lt_pow_right (by decide) (by omega)
  have pI := Nat.two_pow_pos I
  have tI : (((I : Int) % 64).toNat) = I % 64 := by omega
  have tJ : (((J : Int) % 64).toNat) = J % 64 := by omega
  have L1 := lb_of (z := 2 ^ I) (word_nat (pow_word _ hrI)) (word_zero) (word_zero) (word_zero) (by unfold val4; omega)
  have L2 := lb_of (z := 2 ^ I) (word_nat (pow_word _ hrI)) (word_zero) (word_zero) (word_zero) (by unfold val4; omega)
  have k1 := fun W hW => exact_i5 neg (2 ^ I) (by omega) fI W hW
  rw [exq_pow hI] at k1
  simp only [I5, L1.1, L1.2.1, L1.2.2.1, L1.2.2.2] at k1
  have k2 := fun W hW => exact_i5 neg (2 ^ I) (by omega) (by omega) W hW
  have eq : exq (2 ^ I) = decide ((I : Int) - (J : Int) ≤ 52) := by rw [exq_pow hI]; exact (decide_eq_true (by omega)).symm
  rw [eq] at k2
  simp only [I5, L2.1, L2.2.1, L2.2.2.1, L2.2.2.2] at k2
  exact pow_00 a b i0 j0 (I : Int) (J : Int) ((2 ^ (I % 64) : Nat) : Int) ((2 ^ (I % 64) : Nat) : Int) neg hi hj ho (by omega) (by omega) (by omega) (by omega) (by omega) (by rw [tI]; exact or_zero _ hrI)
    (by rw [tJ]; exact (by rw [hc]; exact or_same _ hrI)) k1 k2 w hT
theorem pow_case_10_lt (a b i0 j0 : Int) (I J : Nat) (neg : Bool) (hi : wrap64 ((IntKind.u64.wrap a).tmod 256) = i0) (hj : wrap64 ((IntKind.u64.wrap b).tmod 256) = j0) (ho : (j0 ≤ i0 ∧ i0 = (I : Int) ∧ j0 = (J : Int)) ∨ (i0 < j0 ∧ i0 = (J : Int) ∧ j0 = (I : Int)))
    (hJI : J ≤ I) (hI : I < 256) (hqi : I / 64 = 1) (hqj : J / 64 = 0) (hc : I ≠ J) (w : World) (hT : Tabs w) :
    Calls Tryd.prog 15 #[.int .i64 a, .int .i64 b, .bool neg] w fun e w' => e = .returned (.bool true) ∧ Below w.heap.size w w' := by
  have hrI : I % 64 < 64 := Nat.mod_lt _ (by decide)
  have hrJ : J % 64 < 64 := Nat.mod_lt _ (by decide)
  have eI := pow_split hqi
  have eJ := pow_split hqj
  have fI : 2 ^ I < 2 ^ 256 := Nat.pow_lt_pow_right (by decide) hI
  have fJ : 2 ^ J < 2 ^ 256 := Nat.pow_lt_pow_right (by decide) (by omega)
  have pI := Nat.two_pow_pos I
  have tI : (((I : Int) % 64).toNat) = I % 64 := by omega
  have tJ : (((J : Int) % 64).toNat) = J % 64 := by omega
  have f2 : 2 ^ I + 2 ^ J < 2 ^ 256 := Nat.lt_of_lt_of_le (sum_lt (I := I) (by omega)) (Nat.pow_le_pow_right (by decide) (by omega))
  have L1 := lb_of (z := 2 ^ I) (word_zero) (word_nat (pow_word _ hrI)) (word_zero) (word_zero) (by unfold val4; omega)
  have L2 := lb_of (z := 2 ^ I + 2 ^ J) (word_nat (pow_word _ hrJ)) (word_nat (pow_word _ hrI)) (word_zero) (word_zero) (by unfold val4; omega)
  have k1 := fun W hW => exact_i5 neg (2 ^ I) (by omega) fI W hW
  rw [exq_pow hI] at k1
  simp only [I5, L1.1, L1.2.1, L1.2.2.1, L1.2.2.2] at k1
  have k2 := fun W hW => exact_i5 neg (2 ^ I + 2 ^ J) (by omega) (by omega) W hW
  have eq : exq (2 ^ I + 2 ^ J) = decide ((I : Int) - (J : Int) ≤ 52) := exq_sum hI (by omega)
  rw [eq] at k2
  simp only [I5, L2.1, L2.2.1, L2.2.2.1, L2.2.2.2] at k2
  exact pow_10 a b i0 j0 (I : Int) (J : Int) ((2 ^ (I % 64) : Nat) : Int) ((2 ^ (J % 64) : Nat) : Int) neg hi hj ho (by omega) (by omega) (by omega) (by omega) (by omega) (by rw [tI]; exact or_zero _ hrI)
    (by rw [tJ]; exact or_zero _ hrJ) k1 k2 w hT
theorem pow_case_11_lt (a b i0 j0 : Int) (I J : Nat) (neg : Bool) (hi : wrap64 ((IntKind.u64.wrap a).tmod 256) = i0) (hj : wrap64 ((IntKind.u64.wrap b).tmod 256) = j0) (ho : (j0 ≤ i0 ∧ i0 = (I : Int) ∧ j0 = (J : Int)) ∨ (i0 < j0 ∧ i0 = (J : Int) ∧ j0 = (I : Int)))
    (hJI : J ≤ I) (hI : I < 256) (hqi : I / 64 = 1) (hqj : J / 64 = 1) (hc : J < I) (w : World) (hT : Tabs w) :
    Calls Tryd.prog 15 #[.int .i64 a, .int .i64 b, .bool neg] w fun e w' => e = .returned (.bool true) ∧ Below w.heap.size w w' := by
  have hrI : I % 64 < 64 := Nat.mod_lt _ (by decide)
  have hrJ : J % 64 < 64 := Nat.mod_lt _ (by decide)
  have eI := pow_split hqi
  have eJ := pow_split hqj
  have fI : 2 ^ I < 2 ^ 256 := Nat.pow_lt_pow_right (by decide) hI
  have fJ : 2 ^ J < 2 ^ 256 := Nat.pow_lt_pow_right (by decide) (by omega)
  have pI := Nat.two_pow_pos I
  have tI : (((I : Int) % 64).toNat) = I % 64 := by omega
  have tJ : (((J : Int) % 64).toNat) = J % 64 := by omega
  have hlt : J % 64 < I % 64 := by omega
  have hS : 2 ^ (I % 64) + 2 ^ (J % 64) < 18446744073709551616 := by
    have h1 := Nat.pow_lt_pow_right (a := 2) (by decide) hlt
    have h2 := Nat.pow_le_pow_right (n := 2) (by decide) (show I % 64 + 1 ≤ 64 by omega)
    rw [Nat.pow_succ] at h2
    omega
  have f2 : 2 ^ I + 2 ^ J < 2 ^ 256 := Nat.lt_of_lt_of_le (sum_lt (I := I) (by omega)) (Nat.pow_le_pow_right (by decide) (by omega))
  have L1 := lb_of (z := 2 ^ I) (word_zero) (word_nat (pow_word _ hrI)) (word_zero) (word_zero) (by unfold val4; omega)
  have L2 := lb_of (z := 2 ^ I + 2 ^ J) (word_zero) (word_nat hS) (word_zero) (word_zero) (by unfold val4; omega)
  have k1 := fun W hW => exact_i5 neg (2 ^ I) (by omega) fI W hW
  rw [exq_pow hI] at k1
  simp only [I5, L1.1, L1.2.1, L1.2.2.1, L1.2.2.2] at k1
  have k2 := fun W hW => exact_i5 neg (2 ^ I + 2 ^ J) (by omega) (by omega) W hW
  have eq : exq (2 ^ I + 2 ^ J) = decide ((I : Int) - (J : Int) ≤ 52) := exq_sum hI (by omega)
  rw [eq] at k2
  simp only [I5, L2.1, L2.2.1, L2.2.2.1, L2.2.2.2] at k2
  exact pow_11 a b i0 j0 (I : Int) (J : Int) ((2 ^ (I % 64) : Nat) : Int) ((2 ^ (I % 64) + 2 ^ (J % 64) : Nat) : Int) neg hi hj ho (by omega) (by omega) (by omega) (by omega) (by omega) (by rw [tI]; exact or_zero _ hrI)
    (by rw [tJ]; exact or_two _ _ hrI hlt) k1 k2 w hT
theorem pow_case_11_eq (a b i0 j0 : Int) (I J : Nat) (neg : Bool) (hi : wrap64 ((IntKind.u64.wrap a).tmod 256) = i0) (hj : wrap64 ((IntKind.u64.wrap b).tmod 256) = j0) (ho : (j0 ≤ i0 ∧ i0 = (I : Int) ∧ j0 = (J : Int)) ∨ (i0 < j0 ∧ i0 = (J : Int) ∧ j0 = (I : Int)))
    (hJI : J ≤ I) (hI : I < 256) (hqi : I / 64 = 1) (hqj : J / 64 = 1) (hc : J = I) (w : World) (hT : Tabs w) :
    Calls Tryd.prog 15 #[.int .i64 a, .int .i64 b, .bool neg] w fun e w' => e = .returned (.bool true) ∧ Below w.heap.size w w' := by
  have hrI : I % 64 < 64 := Nat.mod_lt _ (by decide)
  have hrJ : J % 64 < 64 := Nat.mod_lt _ (by decide)
  have eI := pow_split hqi
  have eJ := pow_split hqj
  have fI : 2 ^ I < 2 ^ 256 := Nat.pow_lt_pow_right (by decide) hI
  have fJ : 2 ^ J < 2 ^ 256 := Nat.pow_lt_pow_right (by decide) (by omega)
  have pI := Nat.two_pow_pos I
  have tI : (((I : Int) % 64).toNat) = I % 64 := by omega
  have tJ : (((J : Int) % 64).toNat) = J % 64 := by omega
  have L1 := lb_of (z := 2 ^ I) (word_zero) (word_nat (pow_word _ hrI)) (word_zero) (word_zero) (by unfold val4; omega)
  have L2 := lb_of (z := 2 ^ I) (word_zero) (word_nat (pow_word _ hrI)) (word_zero) (word_zero) (by unfold val4; omega)
  have k1 := fun W hW => exact_i5 neg (2 ^ I) (by omega) fI W hW
  rw [exq_pow hI] at k1
  simp only [I5, L1.1, L1.2.1, L1.2.2.1, L1.2.2.2] at k1
  have k2 := fun W hW => exact_i5 neg (2 ^ I) (by omega) (by omega) W hW
  have eq : exq (2 ^ I) = decide ((I : Int) - (J : Int) ≤ 52) := by rw [exq_pow hI]; exact (decide_eq_true (by omega)).symm
  rw [eq] at k2
  simp only [I5, L2.1, L2.2.1, L2.2.2.1, L2.2.2.2] at k2
  exact pow_11 a b i0 j0 (I : Int) (J : Int) ((2 ^ (I % 64) : Nat) : Int) ((2 ^ (I % 64) : Nat) : Int) neg hi hj ho (by omega) (by omega) (by omega) (by omega) (by omega) (by rw [tI]; exact or_zero _ hrI)
    (by rw [tJ]; exact (by rw [hc]; exact or_same _ hrI)) k1 k2 w hT
theorem pow_case_20_lt (a b i0 j0 : Int) (I J : Nat) (neg : Bool) (hi : wrap64 ((IntKind.u64.wrap a).tmod 256) = i0) (hj : wrap64 ((IntKind.u64.wrap b).tmod 256) = j0) (ho : (j0 ≤ i0 ∧ i0 = (I : Int) ∧ j0 = (J : Int)) ∨ (i0 < j0 ∧ i0 = (J : Int) ∧ j0 = (I : Int)))
    (hJI : J ≤ I) (hI : I < 256) (hqi : I / 64 = 2) (hqj : J / 64 = 0) (hc : I ≠ J) (w : World) (hT : Tabs w) :
    Calls Tryd.prog 15 #[.int .i64 a, .int .i64 b, .bool neg] w fun e w' => e = .returned (.bool true) ∧ Below w.heap.size w w' := by
  have hrI : I % 64 < 64 := Nat.mod_lt _ (by decide)
  have hrJ : J % 64 < 64 := Nat.mod_lt _ (by decide)
  have eI := pow_split hqi
  have eJ := pow_split hqj
  have fI : 2 ^ I < 2 ^ 256 := Nat.pow_lt_pow_right (by decide) hI
  have fJ : 2 ^ J < 2 ^ 256 := Nat.pow_lt_pow_right (by decide) (by omega)
  have pI := Nat.two_pow_pos I
  have tI : (((I : Int) % 64).toNat) = I % 64 := by omega
  have tJ : (((J : Int) % 64).toNat) = J % 64 := by omega
  have f2 : 2 ^ I + 2 ^ J < 2 ^ 256 := Nat.lt_of_lt_of_le (sum_lt (I := I) (by omega)) (Nat.pow_le_pow_right (by decide) (by omega))
  have L1 := lb_of (z := 2 ^ I) (word_zero) (word_zero) (word_nat (pow_word _ hrI)) (word_zero) (by unfold val4; omega)
  have L2 := lb_of (z := 2 ^ I + 2 ^ J) (word_nat (pow_word _ hrJ)) (word_zero) (word_nat (pow_word _ hrI)) (word_zero) (by unfold val4; omega)
  have k1 := fun W hW => exact_i5 neg (2 ^ I) (by omega) fI W hW
  rw [exq_pow hI] at k1
  simp only [I5, L1.1, L1.2.1, L1.2.2.1, L1.2.2.2] at k1
  have k2 := fun W hW => exact_i5 neg (2 ^ I + 2 ^ J) (by omega) (by omega) W hW
  have eq : exq (2 ^ I + 2 ^ J) = decide ((I : Int) - (J : Int) ≤ 52) := exq_sum hI (by omega)
  rw [eq] at k2
  simp only [I5, L2.1, L2.2.1, L2.2.2.1, L2.2.2.2] at k2
  exact pow_20 a b i0 j0 (I : Int) (J : Int) ((2 ^ (I % 64) : Nat) : Int) ((2 ^ (J % 64) : Nat) : Int) neg hi hj ho (by omega) (by omega) (by omega) (by omega) (by omega) (by rw [tI]; exact or_zero _ hrI)
    (by rw [tJ]; exact or_zero _ hrJ) k1 k2 w hT
theorem pow_case_21_lt (a b i0 j0 : Int) (I J : Nat) (neg : Bool) (hi : wrap64 ((IntKind.u64.wrap a).tmod 256) = i0) (hj : wrap64 ((IntKind.u64.wrap b).tmod 256) = j0) (ho : (j0 ≤ i0 ∧ i0 = (I : Int) ∧ j0 = (J : Int)) ∨ (i0 < j0 ∧ i0 = (J : Int) ∧ j0 = (I : Int)))
    (hJI : J ≤ I) (hI : I < 256) (hqi : I / 64 = 2) (hqj : J / 64 = 1) (hc : I ≠ J) (w : World) (hT : Tabs w) :
    Calls Tryd.prog 15 #[.int .i64 a, .int .i64 b, .bool neg] w fun e w' => e = .returned (.bool true) ∧ Below w.heap.size w w' := by
  have hrI : I % 64 < 64 := Nat.mod_lt _ (by decide)
  have hrJ : J % 64 < 64 := Nat.mod_lt _ (by decide)
  have eI := pow_split hqi
  have eJ := pow_split hqj
  have fI : 2 ^ I < 2 ^ 256 := Nat.pow_lt_pow_right (by decide) hI
  have fJ : 2 ^ J < 2 ^ 256 := Nat.pow_lt_pow_right (by decide) (by omega)
  have pI := Nat.two_pow_pos I
  have tI : (((I : Int) % 64).toNat) = I % 64 := by omega
  have tJ : (((J : Int) % 64).toNat) = J % 64 := by omega
  have f2 : 2 ^ I + 2 ^ J < 2 ^ 256 := Nat.lt_of_lt_of_le (sum_lt (I := I) (by omega)) (Nat.pow_le_pow_right (by decide) (by omega))
  have L1 := lb_of (z := 2 ^ I) (word_zero) (word_zero) (word_nat (pow_word _ hrI)) (word_zero) (by unfold val4; omega)
  have L2 := lb_of (z := 2 ^ I + 2 ^ J) (word_zero) (word_nat (pow_word _ hrJ)) (word_nat (pow_word _ hrI)) (word_zero) (by unfold val4; omega)
  have k1 := fun W hW => exact_i5 neg (2 ^ I) (by omega) fI W hW
  rw [exq_pow hI] at k1
  simp only [I5, L1.1, L1.2.1, L1.2.2.1, L1.2.2.2] at k1
  have k2 := fun W hW => exact_i5 neg (2 ^ I + 2 ^ J) (by omega) (by omega) W hW
  have eq : exq (2 ^ I + 2 ^ J) = decide ((I : Int) - (J : Int) ≤ 52) := exq_sum hI (by omega)
  rw [eq] at k2
  simp only [I5, L2.1, L2.2.1, L2.2.2.1, L2.2.2.2] at k2
  exact pow_21 a b i0 j0 (I : Int) (J : Int) ((2 ^ (I % 64) : Nat) : Int) ((2 ^ (J % 64) : Nat) : Int) neg hi hj ho (by omega) (by omega) (by omega) (by omega) (by omega) (by rw [tI]; exact or_zero _ hrI)
    (by rw [tJ]; exact or_zero _ hrJ) k1 k2 w hT
theorem pow_case_22_lt (a b i0 j0 : Int) (I J : Nat) (neg : Bool) (hi : wrap64 ((IntKind.u64.wrap a).tmod 256) = i0) (hj : wrap64 ((IntKind.u64.wrap b).tmod 256) = j0) (ho : (j0 ≤ i0 ∧ i0 = (I : Int) ∧ j0 = (J : Int)) ∨ (i0 < j0 ∧ i0 = (J : Int) ∧ j0 = (I : Int)))
    (hJI : J ≤ I) (hI : I < 256) (hqi : I / 64 = 2) (hqj : J / 64 = 2) (hc : J < I) (w : World) (hT : Tabs w) :
    Calls Tryd.prog 15 #[.int .i64 a, .int .i64 b, .bool neg] w fun e w' => e = .returned (.bool true) ∧ Below w.heap.size w w' := by
  have hrI : I % 64 < 64 := Nat.mod_lt _ (by decide)
  have hrJ : J % 64 < 64 := Nat.mod_lt _ (by decide)
  have eI := pow_split hqi
  have eJ := pow_split hqj
  have fI : 2 ^ I < 2 ^ 256 := Nat.pow_lt_pow_right (by decide) hI
  have fJ : 2 ^ J < 2 ^ 256 := Nat.pow_lt_pow_right (by decide) (by omega)
  have pI := Nat.two_pow_pos I
  have tI : (((I : Int) % 64).toNat) = I % 64 := by omega
  have tJ : (((J : Int) % 64).toNat) = J % 64 := by omega
  have hlt : J % 64 < I % 64 := by omega
  have hS : 2 ^ (I % 64) + 2 ^ (J % 64) < 18446744073709551616 := by
    have h1 := Nat.pow_lt_pow_right (a := 2) (by decide) hlt
    have h2 := Nat.pow_le_pow_right (n := 2) (by decide) (show I % 64 + 1 ≤ 64 by omega)
    rw [Nat.pow_succ] at h2
    omega
  have f2 : 2 ^ I + 2 ^ J < 2 ^ 256 := Nat.lt_of_lt_of_le (sum_lt (I := I) (by omega)) (Nat.pow_le_pow_right (by decide) (by omega))
  have L1 := lb_of (z := 2 ^ I) (word_zero) (word_zero) (word_nat (pow_word _ hrI)) (word_zero) (by unfold val4; omega)
  have L2 := lb_of (z := 2 ^ I + 2 ^ J) (word_zero) (word_zero) (word_nat hS) (word_zero) (by unfold val4; omega)
  have k1 := fun W hW => exact_i5 neg (2 ^ I) (by omega) fI W hW
  rw [exq_pow hI] at k1
  simp only [I5, L1.1, L1.2.1, L1.2.2.1, L1.2.2.2] at k1
  have k2 := fun W hW => exact_i5 neg (2 ^ I + 2 ^ J) (by omega) (by omega) W hW
  have eq : exq (2 ^ I + 2 ^ J) = decide ((I : Int) - (J : Int) ≤ 52) := exq_sum hI (by omega)
  rw [eq] at k2
  simp only [I5, L2.1, L2.2.1, L2.2.2.1, L2.2.2.2] at k2
  exact pow_22 a b i0 j0 (I : Int) (J : Int) ((2 ^ (I % 64) : Nat) : Int) ((2 ^ (I % 64) + 2 ^ (J % 64) : Nat) : Int) neg hi hj ho (by omega) (by omega) (by omega) (by omega) (by omega) (by rw [tI]; exact or_zero _ hrI)
    (by rw [tJ]; exact or_two _ _ hrI hlt) k1 k2 w hT
theorem pow_case_22_eq (a b i0 j0 : Int) (I J : Nat) (neg : Bool) (hi : wrap64 ((IntKind.u64.wrap a).tmod 256) = i0) (hj : wrap64 ((IntKind.u64.wrap b).tmod 256) = j0) (ho : (j0 ≤ i0 ∧ i0 = (I : Int) ∧ j0 = (J : Int)) ∨ (i0 < j0 ∧ i0 = (J : Int) ∧ j0 = (I : Int)))
    (hJI : J ≤ I) (hI : I < 256) (hqi : I / 64 = 2) (hqj : J / 64 = 2) (hc : J = I) (w : World) (hT : Tabs w) :
    Calls Tryd.prog 15 #[.int .i64 a, .int .i64 b, .bool neg] w fun e w' => e = .returned (.bool true) ∧ Below w.heap.size w w' := by
  have hrI : I % 64 < 64 := Nat.mod_lt _ (by decide)
  have hrJ : J % 64 < 64 := Nat.mod_lt _ (by decide)
  have eI := pow_split hqi
  have eJ := pow_split hqj
  have fI : 2 ^ I < 2 ^ 256 := Nat.pow_lt_pow_right (by decide) hI
  have fJ : 2 ^ J < 2 ^ 256 := Nat.pow_lt_pow_right (by decide) (by omega)
  have pI := Nat.two_pow_pos I
  have tI : (((I : Int) % 64).toNat) = I % 64 := by omega
  have tJ : (((J : Int) % 64).toNat) = J % 64 := by omega
  have L1 := lb_of (z := 2 ^ I) (word_zero) (word_zero) (word_nat (pow_word _ hrI)) (word_zero) (by unfold val4; omega)
  have L2 := lb_of (z := 2 ^ I) (word_zero) (word_zero) (word_nat (pow_word _ hrI)) (word_zero) (by unfold val4; omega)
  have k1 := fun W hW => exact_i5 neg (2 ^ I) (by omega) fI W hW
  rw [exq_pow hI] at k1
  simp only [I5, L1.1, L1.2.1, L1.2.2.1, L1.2.2.2] at k1
  have k2 := fun W hW => exact_i5 neg (2 ^ I) (by omega) (by omega) W hW
  have eq : exq (2 ^ I) = decide ((I : Int) - (J : Int) ≤ 52) := by rw [exq_pow hI]; exact (decide_eq_true (by omega)).symm
  rw [eq] at k2
  simp only [I5, L2.1, L2.2.1, L2.2.2.1, L2.2.2.2] at k2
  exact pow_22 a b i0 j0 (I : Int) (J : Int) ((2 ^ (I % 64) : Nat) : Int) ((2 ^ (I % 64) : Nat) : Int) neg hi hj ho (by omega) (by omega) (by omega) (by omega) (by omega) (by rw [tI]; exact or_zero _ hrI)
    (by rw [tJ]; exact (by rw [hc]; exact or_same _ hrI)) k1 k2 w hT
theorem pow_case_30_lt (a b i0 j0 : Int) (I J : Nat) (neg : Bool) (hi : wrap64 ((IntKind.u64.wrap a).tmod 256) = i0) (hj : wrap64 ((IntKind.u64.wrap b).tmod 256) = j0) (ho : (j0 ≤ i0 ∧ i0 = (I : Int) ∧ j0 = (J : Int)) ∨ (i0 < j0 ∧ i0 = (J : Int) ∧ j0 = (I : Int)))
    (hJI : J ≤ I) (hI : I < 256) (hqi : I / 64 = 3) (hqj : J / 64 = 0) (hc : I ≠ J) (w : World) (hT : Tabs w) :
    Calls Tryd.prog 15 #[.int .i64 a, .int .i64 b, .bool neg] w fun e w' => e = .returned (.bool true) ∧ Below w.heap.size w w' := by
  have hrI : I % 64 < 64 := Nat.mod_lt _ (by decide)
  have hrJ : J % 64 < 64 := Nat.mod_lt _ (by decide)
  have eI := pow_split hqi
  have eJ := pow_split hqj
  have fI : 2 ^ I < 2 ^ 256 := Nat.pow_lt_pow_right (by decide) hI
  have fJ : 2 ^ J < 2 ^ 256 := Nat.pow_lt_pow_right (by decide) (by omega)
  have pI := Nat.two_pow_pos I
  have tI : (((I : Int) % 64).toNat) = I % 64 := by omega
  have tJ : (((J : Int) % 64).toNat) = J % 64 := by omega
  have f2 : 2 ^ I + 2 ^ J < 2 ^ 256 := Nat.lt_of_lt_of_le (sum_lt (I := I) (by omega)) (Nat.pow_le_pow_right (by decide) (by omega))
  have L1 := lb_of (z := 2 ^ I) (word_zero) (word_zero) (word_zero) (word_nat (pow_word _ hrI)) (by unfold val4; omega)
  have L2 := lb_of (z := 2 ^ I + 2 ^ J) (word_nat (pow_word _ hrJ)) (word_zero) (word_zero) (word_nat (pow_word _ hrI)) (by unfold val4; omega)
  have k1 := fun W hW => exact_i5 neg (2 ^ I) (by omega) fI W hW
  rw [exq_pow hI] at k1
  simp only [I5, L1.1, L1.2.1, L1.2.2.1, L1.2.2.2] at k1
  have k2 := fun W hW => exact_i5 neg (2 ^ I + 2 ^ J) (by omega) (by omega) W hW
  have eq : exq (2 ^ I + 2 ^ J) = decide ((I : Int) - (J : Int) ≤ 52) := exq_sum hI (by omega)
  rw [eq] at k2
  simp only [I5, L2.1, L2.2.1, L2.2.2.1, L2.2.2.2] at k2
  exact pow_30 a b i0 j0 (I : Int) (J : Int) ((2 ^ (I % 64) : Nat) : Int) ((2 ^ (J % 64) : Nat) : Int) neg hi hj ho (by omega) (by omega) (by omega) (by omega) (by omega) (by rw [tI]; exact or_zero _ hrI)
    (by rw [tJ]; exact or_zero _ hrJ) k1 k2 w hT
theorem pow_case_31_lt (a b i0 j0 : Int) (I J : Nat) (neg : Bool) (hi : wrap64 ((IntKind.u64.wrap a).tmod 256) = i0) (hj : wrap64 ((IntKind.u64.wrap b).tmod 256) = j0) (ho : (j0 ≤ i0 ∧ i0 = (I : Int) ∧ j0 = (J : Int)) ∨ (i0 < j0 ∧ i0 = (J : Int) ∧ j0 = (I : Int)))
    (hJI : J ≤ I) (hI : I < 256) (hqi : I / 64 = 3) (hqj : J / 64 = 1) (hc : I ≠ J) (w : World) (hT : Tabs w) :
    Calls Tryd.prog 15 #[.int .i64 a, .int .i64 b, .bool neg] w fun e w' => e = .returned (.bool true) ∧ Below w.heap.size w w' := by
  have hrI : I % 64 < 64 := Nat.mod_lt _ (by decide)
  have hrJ : J % 64 < 64 := Nat.mod_lt _ (by decide)
  have eI := pow_split hqi
  have eJ := pow_split hqj
  have fI : 2 ^ I < 2 ^ 256 := Nat.pow_lt_pow_right (by decide) hI
  have fJ : 2 ^ J < 2 ^ 256 := Nat.pow_lt_pow_right (by decide) (by omega)
  have pI := Nat.two_pow_pos I
  have tI : (((I : Int) % 64).toNat) = I % 64 := by omega
  have tJ : (((J : Int) % 64).toNat) = J % 64 := by omega
  have f2 : 2 ^ I + 2 ^ J < 2 ^ 256 := Nat.lt_of_lt_of_le (sum_lt (I := I) (by omega)) (Nat.pow_le_pow_right (by decide) (by omega))
  have L1 := lb_of (z := 2 ^ I) (word_zero) (word_zero) (word_zero) (word_nat (pow_word _ hrI)) (by unfold val4; omega)
  have L2 := lb_of (z := 2 ^ I + 2 ^ J) (word_zero) (word_nat (pow_word _ hrJ)) (word_zero) (word_nat (pow_word _ hrI)) (by unfold val4; omega)
  have k1 := fun W hW => exact_i5 neg (2 ^ I) (by omega) fI W hW
  rw [exq_pow hI] at k1
  simp only [I5, L1.1, L1.2.1, L1.2.2.1, L1.2.2.2] at k1
  have k2 := fun W hW => exact_i5 neg (2 ^ I + 2 ^ J) (by omega) (by omega) W hW
  have eq : exq (2 ^ I + 2 ^ J) = decide ((I : Int) - (J : Int) ≤ 52) := exq_sum hI (by omega)
  rw [eq] at k2
  simp only [I5, L2.1, L2.2.1, L2.2.2.1, L2.2.2.2] at k2
  exact pow_31 a b i0 j0 (I : Int) (J : Int) ((2 ^ (I % 64) : Nat) : Int) ((2 ^ (J % 64) : Nat) : Int) neg hi hj ho (by omega) (by omega) (by omega) (by omega) (by omega) (by rw [tI]; exact or_zero _ hrI)
    (by rw [tJ]; exact or_zero _ hrJ) k1 k2 w hT
theorem pow_case_32_lt (a b i0 j0 : Int) (I J : Nat) (neg : Bool) (hi : wrap64 ((IntKind.u64.wrap a).tmod 256) = i0) (hj : wrap64 ((IntKind.u64.wrap b).tmod 256) = j0) (ho : (j0 ≤ i0 ∧ i0 = (I : Int) ∧ j0 = (J : Int)) ∨ (i0 < j0 ∧ i0 = (J : Int) ∧ j0 = (I : Int)))
    (hJI : J ≤ I) (hI : I < 256) (hqi : I / 64 = 3) (hqj : J / 64 = 2) (hc : I ≠ J) (w : World) (hT : Tabs w) :
    Calls Tryd.prog 15 #[.int .i64 a, .int .i64 b, .bool neg] w fun e w' => e = .returned (.bool true) ∧ Below w.heap.size w w' := by
  have hrI : I % 64 < 64 := Nat.mod_lt _ (by decide)
  have hrJ : J % 64 < 64 := Nat.mod_lt _ (by decide)
  have eI := pow_split hqi
  have eJ := pow_split hqj
  have fI : 2 ^ I < 2 ^ 256 := Nat.pow_lt_pow_right (by decide) hI
  have fJ : 2 ^ J < 2 ^ 256 := Nat.pow_lt_pow_right (by decide) (by omega)
  have pI := Nat.two_pow_pos I
  have tI : (((I : Int) % 64).toNat) = I % 64 := by omega
  have tJ : (((J : Int) % 64).toNat) = J % 64 := by omega
  have f2 : 2 ^ I + 2 ^ J < 2 ^ 256 := Nat.lt_of_lt_of_le (sum_lt (I := I) (by omega)) (Nat.pow_le_pow_right (by decide) (by omega))
  have L1 := lb_of (z := 2 ^ I) (word_zero) (word_zero) (word_zero) (word_nat (pow_word _ hrI)) (by unfold val4; omega)
  have L2 := lb_of (z := 2 ^ I + 2 ^ J) (word_zero) (word_zero) (word_nat (pow_word _ hrJ)) (word_nat (pow_word _ hrI)) (by unfold val4; omega)
  have k1 := fun W hW => exact_i5 neg (2 ^ I) (by omega) fI W hW
  rw [exq_pow hI] at k1
  simp only [I5, L1.1, L1.2.1, L1.2.2.1, L1.2.2.2] at k1
  have k2 := fun W hW => exact_i5 neg (2 ^ I + 2 ^ J) (by omega) (by omega) W hW
  have eq : exq (2 ^ I + 2 ^ J) = decide ((I : Int) - (J : Int) ≤ 52) := exq_sum hI (by omega)
  rw [eq] at k2
  simp only [I5, L2.1, L2.2.1, L2.2.2.1, L2.2.2.2] at k2
  exact pow_32 a b i0 j0 (I : Int) (J : Int) ((2 ^ (I % 64) : Nat) : Int) ((2 ^ (J % 64) : Nat) : Int) neg hi hj ho (by omega) (by omega) (by omega) (by omega) (by omega) (by rw [tI]; exact or_zero _ hrI)
    (by rw [tJ]; exact or_zero _ hrJ) k1 k2 w hT
theorem pow_case_33_lt (a b i0 j0 : Int) (I J : Nat) (neg : Bool) (hi : wrap64 ((IntKind.u64.wrap a).tmod 256) = i0) (hj : wrap64 ((IntKind.u64.wrap b).tmod 256) = j0) (ho : (j0 ≤ i0 ∧ i0 = (I : Int) ∧ j0 = (J : Int)) ∨ (i0 < j0 ∧ i0 = (J : Int) ∧ j0 = (I : Int)))
    (hJI : J ≤ I) (hI : I < 256) (hqi : I / 64 = 3) (hqj : J / 64 = 3) (hc : J < I) (w : World) (hT : Tabs w) :
    Calls Tryd.prog 15 #[.int .i64 a, .int .i64 b, .bool neg] w fun e w' => e = .returned (.bool true) ∧ Below w.heap.size w w' := by
  have hrI : I % 64 < 64 := Nat.mod_lt _ (by decide)
  have hrJ : J % 64 < 64 := Nat.mod_lt _ (by decide)
  have eI := pow_split hqi
  have eJ := pow_split hqj
  have fI : 2 ^ I < 2 ^ 256 := Nat.pow_lt_pow_right (by decide) hI
  have fJ : 2 ^ J < 2 ^ 256 := Nat.pow_lt_pow_right (by decide) (by omega)
  have pI := Nat.two_pow_pos I
  have tI : (((I : Int) % 64).toNat) = I % 64 := by omega
  have tJ : (((J : Int) % 64).toNat) = J % 64 := by omega
  have hlt : J % 64 < I % 64 := by omega
  have hS : 2 ^ (I % 64) + 2 ^ (J % 64) < 18446744073709551616 := by
    have h1 := Nat.pow_lt_pow_right (a := 2) (by decide) hlt
    have h2 := Nat.pow_le_pow_right (n := 2) (by decide) (show I % 64 + 1 ≤ 64 by omega)
    rw [Nat.pow_succ] at h2
    omega
  have f2 : 2 ^ I + 2 ^ J < 2 ^ 256 := Nat.lt_of_lt_of_le (sum_lt (I := I) (by omega)) (Nat.pow_le_pow_right (by decide) (by omega))
  have L1 := lb_of (z := 2 ^ I) (word_zero) (word_zero) (word_zero) (word_nat (pow_word _ hrI)) (by unfold val4; omega)
  have L2 := lb_of (z := 2 ^ I + 2 ^ J) (word_zero) (word_zero) (word_zero) (word_nat hS) (by unfold val4; omega)
  have k1 := fun W hW => exact_i5 neg (2 ^ I) (by omega) fI W hW
  rw [exq_pow hI] at k1
  simp only [I5, L1.1, L1.2.1, L1.2.2.1, L1.2.2.2] at k1
  have k2 := fun W hW => exact_i5 neg (2 ^ I + 2 ^ J) (by omega) (by omega) W hW
  have eq : exq (2 ^ I + 2 ^ J) = decide ((I : Int) - (J : Int) ≤ 52) := exq_sum hI (by omega)
  rw [eq] at k2
  simp only [I5, L2.1, L2.2.1, L2.2.2.1, L2.2.2.2] at k2
  exact pow_33 a b i0 j0 (I : Int) (J : Int) ((2 ^ (I % 64) : Nat) : Int) ((2 ^ (I % 64) + 2 ^ (J % 64) : Nat) : Int) neg hi hj ho (by omega) (by omega) (by omega) (by omega) (by omega) (by rw [tI]; exact or_zero _ hrI)
    (by rw [tJ]; exact or_two _ _ hrI hlt) k1 k2 w hT
theorem pow_case_33_eq (a b i0 j0 : Int) (I J : Nat) (neg : Bool) (hi : wrap64 ((IntKind.u64.wrap a).tmod 256) = i0) (hj : wrap64 ((IntKind.u64.wrap b).tmod 256) = j0) (ho : (j0 ≤ i0 ∧ i0 = (I : Int) ∧ j0 = (J : Int)) ∨ (i0 < j0 ∧ i0 = (J : Int) ∧ j0 = (I : Int)))
    (hJI : J ≤ I) (hI : I < 256) (hqi : I / 64 = 3) (hqj : J / 64 = 3) (hc : J = I) (w : World) (hT : Tabs w) :
    Calls Tryd.prog 15 #[.int .i64 a, .int .i64 b, .bool neg] w fun e w' => e = .returned (.bool true) ∧ Below w.heap.size w w' := by
  have hrI : I % 64 < 64 := Nat.mod_lt _ (by decide)
  have hrJ : J % 64 < 64 := Nat.mod_lt _ (by decide)
  have eI := pow_split hqi
  have eJ := pow_split hqj
  have fI : 2 ^ I < 2 ^ 256 := Nat.pow_lt_pow_right (by decide) hI
  have fJ : 2 ^ J < 2 ^ 256 := Nat.pow_lt_pow_right (by decide) (by omega)
  have pI := Nat.two_pow_pos I
  have tI : (((I : Int) % 64).toNat) = I % 64 := by omega
  have tJ : (((J : Int) % 64).toNat) = J % 64 := by omega
  have L1 := lb_of (z := 2 ^ I) (word_zero) (word_zero) (word_zero) (word_nat (pow_word _ hrI)) (by unfold val4; omega)
  have L2 := lb_of (z := 2 ^ I) (word_zero) (word_zero) (word_zero) (word_nat (pow_word _ hrI)) (by unfold val4; omega)
  have k1 := fun W hW => exact_i5 neg (2 ^ I) (by omega) fI W hW
  rw [exq_pow hI] at k1
  simp only [I5, L1.1, L1.2.1, L1.2.2.1, L1.2.2.2] at k1
  have k2 := fun W hW => exact_i5 neg (2 ^ I) (by omega) (by omega) W hW
  have eq : exq (2 ^ I) = decide ((I : Int) - (J : Int) ≤ 52) := by rw [exq_pow hI]; exact (decide_eq_true (by omega)).symm
  rw [eq] at k2
  simp only [I5, L2.1, L2.2.1, L2.2.2.1, L2.2.2.2] at k2
  exact pow_33 a b i0 j0 (I : Int) (J : Int) ((2 ^ (I % 64) : Nat) : Int) ((2 ^ (I % 64) : Nat) : Int) neg hi hj ho (by omega) (by omega) (by omega) (by omega) (by omega) (by rw [tI]; exact or_zero _ hrI)
    (by rw [tJ]; exact (by rw [hc]; exact or_same _ hrI)) k1 k2 w hT
theorem powers2_any (a b : Int) (neg : Bool) (w : World) (hT : Tabs w) :
    Calls Tryd.prog 15 #[.int .i64 a, .int .i64 b, .bool neg] w fun e w' => e = .returned (.bool true) ∧ Below w.heap.size w w' := by
  obtain ⟨i0, hi⟩ : ∃ i0, wrap64 ((IntKind.u64.wrap a).tmod 256) = i0 := ⟨_, rfl⟩
  obtain ⟨j0, hj⟩ : ∃ j0, wrap64 ((IntKind.u64.wrap b).tmod 256) = j0 := ⟨_, rfl⟩
  have bi := rem_bound a
  have bj := rem_bound b
  rw [hi] at bi
  rw [hj] at bj
  have key : ∃ I J : Nat, ((j0 ≤ i0 ∧ i0 = (I : Int) ∧ j0 = (J : Int)) ∨ (i0 < j0 ∧ i0 = (J : Int) ∧ j0 = (I : Int))) ∧ J ≤ I ∧ I < 256 := by
    by_cases h : j0 ≤ i0
    · exact ⟨i0.toNat, j0.toNat, .inl ⟨h, by omega, by omega⟩, by omega, by omega⟩
    · exact ⟨j0.toNat, i0.toNat, .inr ⟨by omega, by omega, by omega⟩, by omega, by omega⟩
  obtain ⟨I, J, ho, hJI, hI⟩ := key
  have qI : I / 64 = 0 ∨ I / 64 = 1 ∨ I / 64 = 2 ∨ I / 64 = 3 := by omega
  have qJ : J / 64 = 0 ∨ J / 64 = 1 ∨ J / 64 = 2 ∨ J / 64 = 3 := by omega
  rcases qI with qI | qI | qI | qI <;> rcases qJ with qJ | qJ | qJ | qJ
  · rcases Nat.lt_or_eq_of_le hJI with h | h
    · exact pow_case_00_lt a b i0 j0 I J neg hi hj ho hJI hI qI qJ h w hT
    · exact pow_case_00_eq a b i0 j0 I J neg hi hj ho hJI hI qI qJ h w hT
  · exact absurd hJI (by omega)
  · exact absurd hJI (by omega)
  · exact absurd hJI (by omega)
  · exact pow_case_10_lt a b i0 j0 I J neg hi hj ho hJI hI qI qJ (by omega) w hT
  · rcases Nat.lt_or_eq_of_le hJI with h | h
    · exact pow_case_11_lt a b i0 j0 I J neg hi hj ho hJI hI qI qJ h w hT
    · exact pow_case_11_eq a b i0 j0 I J neg hi hj ho hJI hI qI qJ h w hT
  · exact absurd hJI (by omega)
  · exact absurd hJI (by omega)
  · exact pow_case_20_lt a b i0 j0 I J neg hi hj ho hJI hI qI qJ (by omega) w hT
  · exact pow_case_21_lt a b i0 j0 I J neg hi hj ho hJI hI qI qJ (by omega) w hT
  · rcases Nat.lt_or_eq_of_le hJI with h | h
    · exact pow_case_22_lt a b i0 j0 I J neg hi hj ho hJI hI qI qJ h w hT
    · exact pow_case_22_eq a b i0 j0 I J neg hi hj ho hJI hI qI qJ h w hT
  · exact absurd hJI (by omega)
  · exact pow_case_30_lt a b i0 j0 I J neg hi hj ho hJI hI qI qJ (by omega) w hT
  · exact pow_case_31_lt a b i0 j0 I J neg hi hj ho hJI hI qI qJ (by omega) w hT
  · exact pow_case_32_lt a b i0 j0 I J neg hi hj ho hJI hI qI qJ (by omega) w hT
  · rcases Nat.lt_or_eq_of_le hJI with h | h
    · exact pow_case_33_lt a b i0 j0 I J neg hi hj ho hJI hI qI qJ h w hT
    · exact pow_case_33_eq a b i0 j0 I J neg hi hj ho hJI hI qI qJ h w hT

end Go.Proofs.YtbegblkfdnaloaaDoor
