/-
  Floats of 64 bits as words: their digits, what stands behind the point, the whole numbers, the classes; the other sign; the other widths. Plain arithmetic, no Go. For every word.
-/
import Derived.Test.YtoibaeilbolffaaGreatDoorFltMath
import Derived.Shelf.Spec.TrailingZeros
namespace Go.Proofs.YtoibaeilbolffaaGreatDoor
open Ieee

/-- The digits, with the one that is left out; the power of two of the last one that is not nought; the digits up to it. -/
def dg (b : Nat) : Nat := b % 4503599627370496 + (if b / 4503599627370496 % 2048 = 0 then 0 else 4503599627370496)
def pw (b : Nat) : Int := if dg b = 0 then 0 else ((max (b / 4503599627370496 % 2048) 1 : Nat) : Int) - 1075 + (Lib.ctz 64 (dg b) : Nat)
def od (b : Nat) : Nat := if dg b = 0 then 0 else dg b / 2 ^ Lib.ctz 64 (dg b)
def beh (b : Nat) : Nat := if rg b < INF then (-(pw b)).toNat else 0
def whl (b : Nat) : Option Nat := if rg b < INF ∧ 0 ≤ pw b ∧ od b * 2 ^ (pw b).toNat < 2 ^ 256 then some (od b * 2 ^ (pw b).toNat) else none
def cls (b : Nat) : Nat := if INF < rg b then 16 else if rg b = INF then (if sg b = 0 then 4 else 8) else if (whl b).isSome then 0 else if beh b = 0 ∨ 64 < beh b then 2 else 1

theorem dg_rg (b : Nat) : dg b = dg (rg b) := by
  unfold dg rg
  have e1 : b % 9223372036854775808 % 4503599627370496 = b % 4503599627370496 := by omega
  have e2 : b % 9223372036854775808 / 4503599627370496 % 2048 = b / 4503599627370496 % 2048 := by omega
  rw [e1, e2]
theorem rg_rg (b : Nat) : rg (rg b) = rg b := by unfold rg; omega
theorem pw_rg (b : Nat) : pw b = pw (rg b) := by
  unfold pw
  rw [← dg_rg]
  have e2 : rg b / 4503599627370496 % 2048 = b / 4503599627370496 % 2048 := by unfold rg; omega
  rw [e2]
theorem od_rg (b : Nat) : od b = od (rg b) := by unfold od; rw [← dg_rg]
theorem beh_rg (b : Nat) : beh b = beh (rg b) := by unfold beh; rw [← pw_rg, rg_rg]
theorem whl_rg (b : Nat) : whl b = whl (rg b) := by unfold whl; rw [← pw_rg, ← od_rg, rg_rg]

/-- The word with the other sign. -/
def osg (b : Nat) : Nat := b ^^^ 9223372036854775808
theorem osg_rg (b : Nat) : rg (osg b) = rg b := by
  unfold rg osg
  have := Nat.xor_mod_two_pow (a := b) (b := 9223372036854775808) (n := 63)
  rw [show (9223372036854775808 : Nat) % 2 ^ 63 = 0 from by decide, Nat.xor_zero] at this
  exact this
theorem osg_sg {b : Nat} (hb : b < 18446744073709551616) : sg (osg b) = 1 - sg b := by
  unfold sg osg
  have := Nat.xor_div_two_pow (a := b) (b := 9223372036854775808) (n := 63)
  have h : b / 2 ^ 63 = 0 ∨ b / 2 ^ 63 = 1 := by omega
  rcases h with h | h <;> rw [h] at this <;> simp at this <;> omega
theorem osg_lt {b : Nat} (hb : b < 18446744073709551616) : osg b < 18446744073709551616 :=
  Nat.xor_lt_two_pow (n := 64) hb (by decide)
theorem word_of (b : Nat) : b = sg b * 9223372036854775808 + rg b := by unfold sg rg; omega
/-- What stands beside the sign in a single's word of 64 bits; a half's. -/
def sng0 (r : Nat) : Nat := if r = 2139095040 then INF else if r = 0 then 0 else nr (mg single r) (pl single r)
theorem sng_eq {s : Nat} (h : s % 2147483648 ≤ 2139095040) : sng s = s / 2147483648 * 9223372036854775808 + sng0 (s % 2147483648) := by
  unfold sng sng0
  rw [if_neg (by omega)]
theorem sng0_lt {r : Nat} (h : r ≤ 2139095040) : sng0 r < 9223372036854775808 := by
  have e := sng_eq (s := r) (by omega)
  have h2 := sng_lt (s := 2147483648 + r) (by omega)
  rw [sng_eq (s := 2147483648 + r) (by omega)] at h2
  rw [show (2147483648 + r) / 2147483648 = 1 from by omega, show (2147483648 + r) % 2147483648 = r from by omega] at h2
  omega
theorem tos_word {b : Nat} (hb : b < 18446744073709551616) (hn : rg b < INF) : (tos b).2 = decide (sng0 (single.nearest false (mg double (rg b)) (pl double (rg b))) = rg b) := by
  obtain ⟨h1, h2, h3⟩ := tosr_bound hb
  have h4 := near_le single (mg double (rg b)) (pl double (rg b))
  rw [sgl_inf] at h4
  have e := sng_eq (s := tosr b) (by omega)
  rw [h2, h3] at e
  have w := word_of b
  unfold tos
  rw [if_neg (by omega), if_neg (by omega)]
  by_cases h : sng0 (single.nearest false (mg double (rg b)) (pl double (rg b))) = rg b
  · rw [if_pos (by rw [e, h]; exact w.symm), decide_eq_true h]
  · rw [if_neg (fun h5 => h (by rw [e] at h5; omega)), decide_eq_false h]
theorem tos_sign {b : Nat} (hb : b < 18446744073709551616) : (tos (osg b)).2 = (tos b).2 := by
  by_cases h1 : INF < rg b
  · rw [tos_nan h1, tos_nan (by rw [osg_rg]; exact h1)]
  · by_cases h2 : rg b = INF
    · unfold tos
      rw [osg_rg, if_neg h1, if_neg h1, if_pos h2, if_pos h2]
    · rw [tos_word hb (by omega), tos_word (osg_lt hb) (by rw [osg_rg]; omega), osg_rg]
def hlf0 (r : Nat) : Nat := if r = 31744 then INF else if r < 1024 then (if r = 0 then 0 else nr r (-24)) else r * 4398046511104 + 4539628424389459968
def cuth0 (r : Nat) : Nat := if 1039 ≤ r / 4503599627370496 then 31744 else if 1008 < r / 4503599627370496 then (r / 4503599627370496 - 1008) * 1024 + r % 4503599627370496 / 4398046511104 else (4503599627370496 + r % 4503599627370496) / 2 ^ (1051 - r / 4503599627370496)
theorem cuth_eq (b : Nat) : cuth b = sg b * 32768 + cuth0 (rg b) := by
  unfold cuth cuth0 sg rg
  have e1 : b % 9223372036854775808 % 4503599627370496 = b % 4503599627370496 := by omega
  have e2 : b % 9223372036854775808 / 4503599627370496 = b / 4503599627370496 % 2048 := by omega
  rw [e1, e2]
theorem cuth0_le {r : Nat} (h : r < 9223372036854775808) : cuth0 r ≤ 31744 := by
  unfold cuth0
  split
  · omega
  · split
    · omega
    · have h1 : (4503599627370496 + r % 4503599627370496) / 2 ^ (1051 - r / 4503599627370496) ≤ (4503599627370496 + r % 4503599627370496) / 2 ^ 43 :=
        Nat.div_le_div_left (Nat.pow_le_pow_right (by decide) (by omega)) (Nat.two_pow_pos _)
      omega
theorem hlf_eq {h : Nat} (k : h % 32768 ≤ 31744) : hlf h = h / 32768 * 9223372036854775808 + hlf0 (h % 32768) := by
  unfold hlf hlf0
  rw [if_neg (by omega)]
theorem hlf0_lt {r : Nat} (h : r ≤ 31744) : hlf0 r < 9223372036854775808 := by
  have h2 := hlf_lt (h := 32768 + r) (by omega)
  rw [hlf_eq (by omega), show (32768 + r) / 32768 = 1 from by omega, show (32768 + r) % 32768 = r from by omega] at h2
  omega
theorem toh_word {b : Nat} (hn : rg b ≤ INF) : (toh b).2 = decide (hlf0 (cuth0 (rg b)) = rg b) := by
  have hr : rg b < 9223372036854775808 := Nat.mod_lt _ (by decide)
  have hc := cuth0_le hr
  have e := hlf_eq (h := cuth b) (by rw [cuth_eq]; omega)
  rw [cuth_eq, show (sg b * 32768 + cuth0 (rg b)) / 32768 = sg b from by omega, show (sg b * 32768 + cuth0 (rg b)) % 32768 = cuth0 (rg b) from by omega] at e
  have w := word_of b
  unfold toh
  rw [if_neg (by omega), cuth_eq]
  by_cases h : hlf0 (cuth0 (rg b)) = rg b
  · rw [if_pos (by rw [e, h]; exact w.symm), decide_eq_true h]
  · rw [if_neg (fun h5 => h (by rw [e] at h5; omega)), decide_eq_false h]
theorem toh_sign {b : Nat} : (toh (osg b)).2 = (toh b).2 := by
  by_cases h1 : INF < rg b
  · rw [toh_nan h1, toh_nan (by rw [osg_rg]; exact h1)]
  · rw [toh_word (b := osg b) (by rw [osg_rg]; omega), toh_word (b := b) (by omega), osg_rg]
theorem beh_sign (b : Nat) : beh (osg b) = beh b := by rw [beh_rg, osg_rg, ← beh_rg]
theorem whl_sign (b : Nat) : whl (osg b) = whl b := by rw [whl_rg, osg_rg, ← whl_rg]
theorem cls_sign {b : Nat} (hb : b < 18446744073709551616) : cls b = cls (osg b) ∨ (cls b = 4 ∧ cls (osg b) = 8) ∨ (cls b = 8 ∧ cls (osg b) = 4) := by
  unfold cls
  rw [osg_rg, osg_sg hb, beh_sign, whl_sign]
  have h2 : sg b = 0 ∨ sg b = 1 := by unfold sg; omega
  split
  · exact .inl rfl
  · split
    · rcases h2 with h | h <;> rw [h] <;> simp
    · exact .inl rfl
theorem cls_le (b : Nat) : cls b ≤ 16 := by
  unfold cls
  repeat (first | omega | split)
end Go.Proofs.YtoibaeilbolffaaGreatDoor
