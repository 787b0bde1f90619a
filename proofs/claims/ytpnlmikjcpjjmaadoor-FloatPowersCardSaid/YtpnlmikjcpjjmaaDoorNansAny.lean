/-
  entrepotlaw3.FloatNaNs answers true for all bits and either sign. The table math/bits.deBruijn64tab reads as its initialiser lays it.
-/
import Derived.Test.YtpnlmikjcpjjmaaDoorNansWalk
import Derived.Test.YtpnlmikjcpjjmaaDoorFltTold
namespace Go.Proofs.YtpnlmikjcpjjmaaDoor
open Go.RowKit Go.Shelf

theorem or_inf (x : Nat) (h : x < 4503599627370496) : bits .or .u64 9218868437227405312 (x : Int) = ((9218868437227405312 + x : Nat) : Int) := by
  have h1 := u64_or_nat 9218868437227405312 x (by decide) (by omega)
  have h2 := Nat.two_pow_add_eq_or_of_lt (i := 52) (b := x) h 2047
  rw [show (2 : Nat) ^ 52 * 2047 = 9218868437227405312 from by decide] at h2
  rw [← h2] at h1
  exact h1
theorem or_top (r : Nat) (hr : r < 9223372036854775808) : bits .or .u64 (r : Int) 9223372036854775808 = ((9223372036854775808 + r : Nat) : Int) := by
  have h := u64_or_nat r 9223372036854775808 (by omega) (by decide)
  have h2 := Nat.two_pow_add_eq_or_of_lt (i := 63) (b := r) hr 1
  rw [Nat.mul_one, show (2 : Nat) ^ 63 = 9223372036854775808 from by decide, Nat.or_comm] at h2
  rw [← h2] at h
  exact h
theorem single_b (s : Nat) (hs : s < 4294967296) (w : World) :
    Calls Tryd.prog 91 #[.int .u32 s] w fun e w' => e = .returned (.int .u64 (sng s : Nat)) ∧ Below w.heap.size w w' :=
  (single_any s hs w).mono fun _ _ ⟨he, n, hw⟩ => ⟨he, by rw [hw]; exact bdn (Below.refl _ _) n⟩
section
variable (B : Nat) (hB : B < 18446744073709551616) (hn : INF < rg B)
include hB hn
theorem nan_k1 (w : World) : Calls Tryd.prog 85 #[.int .u64 B] w fun e w' => e = .returned (.tuple #[.int .u32 2143289344, .bool true]) ∧ Below w.heap.size w w' := by
  have := tosingle_any B hB w
  rw [tos_nan hn] at this
  exact this
theorem nan_k2 (w : World) : Calls Tryd.prog 87 #[.int .u64 B] w fun e w' => e = .returned (.tuple #[.int .u16 32256, .bool true]) ∧ Below w.heap.size w w' := by
  have := tohalf_any B hB w
  rw [toh_nan hn] at this
  exact calls_below this
theorem nan_k3 (w : World) : Calls Tryd.prog 81 #[.int .u64 B] w fun e w' => e = .returned (.int .u64 9221120237041090560) ∧ Below w.heap.size w w' := by
  have := canon_any B hB w
  rw [can_nan hn] at this
  exact calls_below this
omit hB in
theorem nan_cls : cls B = 16 := by unfold cls; rw [if_pos hn]
theorem nan_k4 (w : World) (hT : Tb w) : Calls Tryd.prog 77 #[.int .u64 B] w fun e w' => e = .returned (.int .i64 16) ∧ Below w.heap.size w w' := by
  have := class_any B hB w hT
  rw [nan_cls B hn] at this
  exact this
theorem nan_k5 (w : World) (hT : Tb w) : Calls Tryd.prog 79 #[.int .u64 B] w fun e w' => e = .returned (.bool ((B : Int) == 9221120237041090560)) ∧ Below w.heap.size w w' := by
  have := fmay_any B hB w hT
  have e : mayF B = ((B : Int) == 9221120237041090560) := by
    unfold mayF
    rw [nan_cls B hn, can_nan hn, Bool.eq_iff_iff, Bool.and_eq_true, beq_iff_eq, beq_iff_eq]
    have : NANW = 9221120237041090560 := rfl
    constructor
    · rintro ⟨_, h⟩; omega
    · intro h; exact ⟨rfl, by omega⟩
  rw [e] at this
  exact this
end
theorem nan_k6 (w : World) : Calls Tryd.prog 91 #[.int .u32 2143289344] w fun e w' => e = .returned (.int .u64 9221120237041090560) ∧ Below w.heap.size w w' := by
  have := single_b 2143289344 (by decide) w
  rw [sng_nan (by decide)] at this
  exact this
theorem nan_k7 (w : World) : Calls Tryd.prog 89 #[.int .u16 32256] w fun e w' => e = .returned (.int .u64 9221120237041090560) ∧ Below w.heap.size w w' := by
  have := half_any 32256 (by decide) w
  rw [hlf_nan (by decide)] at this
  exact calls_below this
theorem nan_rgb {x : Nat} (h0 : 0 < x) (h1 : x < 4503599627370496) : INF < rg (9218868437227405312 + x) ∧ INF < rg (9223372036854775808 + (9218868437227405312 + x)) := by
  have h5 : INF = 9218868437227405312 := rfl
  unfold rg
  omega
theorem nans_any (m : Int) (neg : Bool) (h0 : 0 ≤ m) (h1 : m ≤ 18446744073709551615) (w : World) (hT : Tb w) :
    Calls Tryd.prog 16 #[.int .u64 m, .bool neg] w fun e w' => e = .returned (.bool true) ∧ Below w.heap.size w w' := by
  obtain ⟨n, rfl⟩ := Int.eq_ofNat_of_zero_le h0
  have hn : n < 18446744073709551616 := by omega
  have e1 := frac_bits n hn
  have hx : n % 4503599627370496 < 4503599627370496 := by omega
  have e2 := or_inf _ hx
  obtain ⟨x, ex⟩ : ∃ x, x = n % 4503599627370496 := ⟨_, rfl⟩
  rw [← ex] at e1 e2 hx
  by_cases z : x = 0
  · subst z
    have e3 : bits .or .u64 ((9218868437227405312 + 0 : Nat) : Int) 1 = ((9218868437227405312 + 1 : Nat) : Int) := or_inf 1 (by decide)
    obtain ⟨r1, r2⟩ := nan_rgb (x := 1) (by decide) (by decide)
    cases neg
    · exact nans_z_false n _ _ _ _ e1 e2 rfl e3 rfl (fun W => nan_k1 _ (by decide) r1 W) (fun W => nan_k2 _ (by decide) r1 W) (fun W hW => told3_true W hW) (fun W => nan_k3 _ (by decide) r1 W) (fun W hW => nan_k4 _ (by decide) r1 W hW) (fun W hW => nan_k5 _ (by decide) r1 W hW) nan_k6 nan_k7 w hT
    · exact nans_z_true n _ _ _ _ e1 e2 rfl e3 (or_top _ (by decide)) (fun W => nan_k1 _ (by decide) r2 W) (fun W => nan_k2 _ (by decide) r2 W) (fun W hW => told3_true W hW) (fun W => nan_k3 _ (by decide) r2 W) (fun W hW => nan_k4 _ (by decide) r2 W hW) (fun W hW => nan_k5 _ (by decide) r2 W hW) nan_k6 nan_k7 w hT
  · obtain ⟨r1, r2⟩ := nan_rgb (x := x) (by omega) hx
    have hz : ((x : Int) == 0) = false := by rw [beq_eq_false_iff_ne]; omega
    have q1 : 9218868437227405312 + x < 18446744073709551616 := by omega
    have q2 : 9223372036854775808 + (9218868437227405312 + x) < 18446744073709551616 := by omega
    cases neg
    · exact nans_n_false n _ _ _ _ e1 e2 hz rfl rfl (fun W => nan_k1 _ q1 r1 W) (fun W => nan_k2 _ q1 r1 W) (fun W hW => told3_true W hW) (fun W => nan_k3 _ q1 r1 W) (fun W hW => nan_k4 _ q1 r1 W hW) (fun W hW => nan_k5 _ q1 r1 W hW) nan_k6 nan_k7 w hT
    · exact nans_n_true n _ _ _ _ e1 e2 hz rfl (or_top _ (by omega)) (fun W => nan_k1 _ q2 r2 W) (fun W => nan_k2 _ q2 r2 W) (fun W hW => told3_true W hW) (fun W => nan_k3 _ q2 r2 W) (fun W hW => nan_k4 _ q2 r2 W hW) (fun W hW => nan_k5 _ q2 r2 W hW) nan_k6 nan_k7 w hT
end Go.Proofs.YtpnlmikjcpjjmaaDoor
