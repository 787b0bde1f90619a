/-
  Floats packed in less bits: plain arithmetic, no Go. For every word.
-/
import Derived.Test.YtebfggiodhaahaaGreatDoorGF
import Derived.Test.YtebfggiodhaahaaGreatDoorGC
import Derived.Test.YtebfggiodhaahaaGreatDoorGL
namespace Go.Proofs.YtebfggiodhaahaaGreatDoor
open Ieee

theorem lg_lt {n k : Nat} (h : n < 2 ^ k) (h0 : n ≠ 0) : n.log2 < k := (Nat.log2_lt h0).2 h
/-- A normal word is its digits by their power of two. -/
theorem nr_word {r : Nat} (h0 : 4503599627370496 ≤ r) (h1 : r < INF) : dg r = 4503599627370496 + r % 4503599627370496 ∧ ex r = (r / 4503599627370496 : Nat) - 1075 ∧ (dg r).log2 = 52 ∧ nr (dg r) (ex r) = r := by
  have hI : INF = 9218868437227405312 := rfl
  have hf : r / 4503599627370496 % 2048 = r / 4503599627370496 := Nat.mod_eq_of_lt (by omega)
  have hd : dg r = 4503599627370496 + r % 4503599627370496 := by
    unfold dg
    rw [hf, if_neg (by omega)]
    omega
  have he : ex r = (r / 4503599627370496 : Nat) - 1075 := by
    unfold ex
    rw [hf, if_neg (by omega)]
  have hl : (dg r).log2 = 52 := lg_unique (by rw [hd, show (2 : Nat) ^ 52 = 4503599627370496 from by decide]; omega) (by rw [hd, show (2 : Nat) ^ (52 + 1) = 9007199254740992 from by decide]; omega)
  refine ⟨hd, he, hl, ?_⟩
  unfold nr
  rw [hl, he, hd]
  simp only [Nat.sub_self, Nat.pow_zero, Nat.mul_one]
  omega
theorem dg_small {b : Nat} (h : rg b < 4503599627370496) : dg b < 4503599627370496 ∧ ex b = -1074 ∧ dg b = rg b := by
  have hf : b / 4503599627370496 % 2048 = 0 := by unfold rg at h; omega
  unfold dg ex
  rw [if_pos hf, if_pos hf]
  unfold rg at h ⊢
  omega
theorem ex_rg (b : Nat) : ex b = ex (rg b) := by
  unfold ex
  have e2 : rg b / 4503599627370496 % 2048 = b / 4503599627370496 % 2048 := by unfold rg; omega
  rw [e2]
/-- Digits by a power of two in less bits: so many of digits, the greatest power of the first, the least one of the last; the sign's place. -/
def pk (digits bias least' sgn : Nat) (g : Bool) (D : Nat) (E : Int) : Nat × Bool :=
  if D = 0 then (g.toNat * sgn, true)
  else if (D / 2 ^ tz D).log2 + 1 ≤ digits ∧ E + tz D + ((D / 2 ^ tz D).log2 : Nat) ≤ bias ∧ -(least' : Int) ≤ E + tz D then
    (g.toNat * sgn + (if E + tz D + ((D / 2 ^ tz D).log2 : Nat) < 1 - (bias : Int) then D / 2 ^ tz D * 2 ^ (E + tz D + least').toNat else (E + tz D + ((D / 2 ^ tz D).log2 : Nat) + bias - 1).toNat * 2 ^ (digits - 1) + D / 2 ^ tz D * 2 ^ (digits - 1 - (D / 2 ^ tz D).log2)), true)
  else (0, false)
theorem sg_two {b : Nat} (hb : b < 18446744073709551616) : sg b < 2 ∧ (sg b == 1).toNat = sg b := by
  have : sg b < 2 := by unfold sg; omega
  refine ⟨this, ?_⟩
  have h2 : sg b = 0 ∨ sg b = 1 := by omega
  rcases h2 with h2 | h2 <;> rw [h2] <;> rfl
/-- A finite word whose parts fit is the digits by that power. -/
theorem word_fit {b d t : Nat} (hf : rg b < INF) (e : dg b = d * 2 ^ t) (h0 : dg b ≠ 0) (hl : (dg b).log2 = d.log2 + t) (hp : -200 ≤ ex b + t + (d.log2 : Nat)) : nr d (ex b + t) = rg b := by
  have hd0 : d ≠ 0 := by intro h; rw [h, Nat.zero_mul] at e; exact h0 e
  have hn : 4503599627370496 ≤ rg b := by
    rcases Nat.lt_or_ge (rg b) 4503599627370496 with h | h
    · exfalso
      obtain ⟨s1, s2, _⟩ := dg_small h
      have := lg_lt (k := 52) s1 h0
      omega
    · exact h
  obtain ⟨_, _, w3, w4⟩ := nr_word hn hf
  rw [← dg_rg, ← ex_rg] at w4
  rw [← dg_rg] at w3
  have := nr_scale (d := d) (p := ex b + t) t hd0 (by omega)
  rw [← this, ← e, show ex b + (t : Int) - (t : Int) = ex b from by omega, w4]
end Go.Proofs.YtebfggiodhaahaaGreatDoor
