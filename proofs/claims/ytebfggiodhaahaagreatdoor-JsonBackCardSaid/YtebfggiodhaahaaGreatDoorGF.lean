/-
  FltNear FltMath FltMath2 FltA FltB FltC FltD FltE FltF, one behind the other: a claim holds at most 60 files.
-/
import Derived.RowKit
import Derived.Shelf.Spec.TrailingZeros
import Derived.Test.YtebfggiodhaahaaGreatDoorGL
import Derived.Laws.BitsAllLaws
import Derived.Laws.FloatArith
import Derived.Laws.Cover2
import Derived.Test.YtebfggiodhaahaaGreatDoorGE
section
namespace Go.Proofs.YtebfggiodhaahaaGreatDoor
open Ieee

theorem lg_unique {n k : Nat} (h0 : 2 ^ k ≤ n) (h1 : n < 2 ^ (k + 1)) : n.log2 = k := by
  have hn : n ≠ 0 := by have := Nat.two_pow_pos k; omega
  have a := Nat.log2_self_le hn
  have b := Nat.lt_log2_self (n := n)
  apply Nat.le_antisymm
  · apply Nat.le_of_lt_succ
    exact (Nat.pow_lt_pow_iff_right (by decide : 1 < 2)).1 (Nat.lt_of_le_of_lt a h1)
  · apply Nat.le_of_lt_succ
    exact (Nat.pow_lt_pow_iff_right (by decide : 1 < 2)).1 (Nat.lt_of_le_of_lt h0 b)
theorem lg_mul (m d : Nat) (h : m ≠ 0) : (m * 2 ^ d).log2 = m.log2 + d := by
  have a := Nat.log2_self_le h
  have b := Nat.lt_log2_self (n := m)
  apply lg_unique
  · rw [Nat.pow_add]; exact Nat.mul_le_mul_right _ a
  · rw [show m.log2 + d + 1 = (m.log2 + 1) + d from by omega, Nat.pow_add]
    exact Nat.mul_lt_mul_of_pos_right b (Nat.two_pow_pos d)

theorem cut_zero (neg : Bool) (n : Nat) : Toward.even.cut neg n 0 = n := by
  simp [Toward.cut, Nat.mod_one]
theorem cut_exact (neg : Bool) (m d : Nat) (hm : m ≠ 0) : Toward.even.cut neg (m * 2 ^ d) d = m := by
  have hp := Nat.two_pow_pos d
  have h : min d ((m * 2 ^ d).log2 + 2) = d := by rw [lg_mul m d hm]; omega
  unfold Toward.cut
  simp only [h, Nat.one_shiftLeft]
  rw [Nat.mul_mod_left, Nat.mul_div_cancel _ hp]
  have e1 : decide (2 ^ d < 2 * 0) = false := by simp
  have e2 : (2 ^ d == 2 * 0) = false := by simp
  rw [e1, e2]
  rfl
theorem cut_scale (neg : Bool) (n d k : Nat) (hn : n ≠ 0) : Toward.even.cut neg (n * 2 ^ k) (d + k) = Toward.even.cut neg n d := by
  have hp := Nat.two_pow_pos k
  have h : min (d + k) ((n * 2 ^ k).log2 + 2) = min d (n.log2 + 2) + k := by rw [lg_mul n k hn]; omega
  unfold Toward.cut
  simp only [h, Nat.one_shiftLeft]
  generalize min d (n.log2 + 2) = g
  rw [Nat.pow_add, Nat.mul_div_mul_right _ _ hp, Nat.mul_mod_mul_right, ← Nat.mul_assoc]
  have e1 : decide (2 ^ g * 2 ^ k < 2 * (n % 2 ^ g) * 2 ^ k) = decide (2 ^ g < 2 * (n % 2 ^ g)) := by
    rw [decide_eq_decide]; exact Nat.mul_lt_mul_right hp
  have e2 : (2 ^ g * 2 ^ k == 2 * (n % 2 ^ g) * 2 ^ k) = (2 ^ g == 2 * (n % 2 ^ g)) := by
    rw [Bool.eq_iff_iff, beq_iff_eq, beq_iff_eq]; exact ⟨fun h => Nat.eq_of_mul_eq_mul_right hp h, fun h => congrArg (fun z => z * 2 ^ k) h⟩
  rw [e1, e2]

theorem near_zero (f : Format) (neg : Bool) (p : Int) : f.nearest neg 0 p = f.word neg 0 := by simp [Format.nearest]
theorem near_scale (f : Format) (neg : Bool) (m : Nat) (p : Int) (k : Nat) : f.nearest neg (m * 2 ^ k) (p - k) = f.nearest neg m p := by
  by_cases hm : m = 0
  · subst hm; rw [Nat.zero_mul, near_zero, near_zero]
  have hk := Nat.two_pow_pos k
  have hmk : m * 2 ^ k ≠ 0 := Nat.mul_ne_zero hm (by omega)
  have hl : (p - k + ((m * 2 ^ k).log2 : Nat) - f.fractionBits : Int) = p + (m.log2 : Nat) - f.fractionBits := by rw [lg_mul m k hm]; omega
  unfold Format.nearest
  rw [if_neg hm, if_neg hmk]
  simp only [hl]
  generalize max (p + (m.log2 : Nat) - f.fractionBits : Int) f.leastPlace = L
  have key : Toward.even.cut neg ((m * 2 ^ k) <<< (p - k - L).toNat) (L - (p - k)).toNat = Toward.even.cut neg (m <<< (p - L).toNat) (L - p).toNat := by
    by_cases h1 : L ≤ p - k
    · have a1 : (L - (p - k)).toNat = 0 := by omega
      have a2 : (L - p).toNat = 0 := by omega
      have a3 : (p - L).toNat = k + (p - k - L).toNat := by omega
      rw [a1, a2, cut_zero, cut_zero, a3, Nat.shiftLeft_eq, Nat.shiftLeft_eq, Nat.pow_add, Nat.mul_assoc]
    · by_cases h2 : L ≤ p
      · have a1 : (p - k - L).toNat = 0 := by omega
        have a2 : (L - p).toNat = 0 := by omega
        obtain ⟨j, hj⟩ : ∃ j : Nat, (L - (p - k)).toNat = j := ⟨_, rfl⟩
        have a3 : k = (p - L).toNat + j := by omega
        rw [a1, a2, hj, cut_zero, Nat.shiftLeft_zero, Nat.shiftLeft_eq]
        generalize (p - L).toNat = i at *
        subst a3
        rw [Nat.pow_add, ← Nat.mul_assoc]
        exact cut_exact neg _ j (Nat.mul_ne_zero hm (by have := Nat.two_pow_pos i; omega))
      · have a1 : (p - k - L).toNat = 0 := by omega
        have a2 : (p - L).toNat = 0 := by omega
        have a3 : (L - (p - k)).toNat = (L - p).toNat + k := by omega
        rw [a1, a2, a3, Nat.shiftLeft_zero, Nat.shiftLeft_zero]
        exact cut_scale neg m _ k hm
  rw [key]

/-- The size and the place of a rung that is a number's. -/
def mg (f : Format) (r : Nat) : Nat := if r < f.binade then r else f.binade + r % f.binade
def pl (f : Format) (r : Nat) : Int := if r < f.binade then f.leastPlace else f.leastPlace + (r / f.binade - 1 : Nat)
theorem read_word (f : Format) (neg : Bool) (r : Nat) (h : r < f.infRung) (hs : r < f.signWeight) : f.read (f.word neg r) = .number neg (mg f r) (pl f r) := by
  have e1 : f.word neg r % f.signWeight = r := by
    unfold Format.word
    cases neg
    · simp [Nat.mod_eq_of_lt hs]
    · simp [Nat.mod_eq_of_lt hs]
  have e2 : (f.word neg r / f.signWeight % 2 == 1) = neg := by
    have hp : 0 < f.signWeight := by omega
    unfold Format.word
    cases neg
    · simp [Nat.div_eq_of_lt hs]
    · simp [Nat.add_div_left _ hp, Nat.div_eq_of_lt hs]
  unfold Format.read mg pl
  simp only [e1, e2, h, if_true]
  split <;> rfl
theorem near_rung (f : Format) (neg : Bool) (r : Nat) (h : r < f.infRung) : f.nearest neg (mg f r) (pl f r) = f.word neg r := by
  have hb : 0 < f.binade := Nat.two_pow_pos _
  unfold mg pl
  split
  · rename_i hr
    by_cases h0 : r = 0
    · subst h0; exact near_zero f neg _
    · have hl : r.log2 < f.fractionBits := (Nat.log2_lt h0).2 hr
      have e : max (f.leastPlace + (r.log2 : Nat) - f.fractionBits : Int) f.leastPlace = f.leastPlace := by omega
      unfold Format.nearest
      rw [if_neg h0]
      simp only [e, Int.sub_self, Int.toNat_zero, Nat.shiftLeft_zero, cut_zero, Nat.zero_mul, Nat.zero_add]
      rw [Nat.min_eq_left (by omega)]
  · rename_i hr
    have hm : r % f.binade < f.binade := Nat.mod_lt _ hb
    have h0 : f.binade + r % f.binade ≠ 0 := by omega
    have hl : (f.binade + r % f.binade).log2 = f.fractionBits := lg_unique (by show f.binade ≤ _; omega) (by rw [Nat.pow_succ]; show _ < f.binade * 2; omega)
    have hq : 1 ≤ r / f.binade := (Nat.one_le_div_iff hb).2 (by omega)
    unfold Format.nearest
    rw [if_neg h0]
    have e : max (f.leastPlace + (r / f.binade - 1 : Nat) + ((f.binade + r % f.binade).log2 : Nat) - f.fractionBits : Int) f.leastPlace = f.leastPlace + (r / f.binade - 1 : Nat) := by rw [hl]; omega
    simp only [e, Int.sub_self, Int.toNat_zero, Nat.shiftLeft_zero, cut_zero]
    have e2 : (f.leastPlace + ((r / f.binade - 1 : Nat) : Int) - f.leastPlace).toNat = r / f.binade - 1 := by omega
    rw [e2]
    have e3 : (r / f.binade - 1) * f.binade + (f.binade + r % f.binade) = r := by
      have := Nat.div_add_mod r f.binade
      obtain ⟨q, hq2⟩ : ∃ q, r / f.binade = q + 1 := ⟨r / f.binade - 1, by omega⟩
      rw [hq2] at this ⊢
      rw [Nat.mul_succ, Nat.mul_comm] at this
      rw [Nat.add_sub_cancel]
      omega
    rw [e3, Nat.min_eq_left (by omega)]
/-- .. by a greater one. -/
theorem near_of' (f : Format) (neg : Bool) (r m : Nat) (p : Int) (k : Nat) (h : r < f.infRung) (hm : m * 2 ^ k = mg f r) (hp : p - k = pl f r) : f.nearest neg m p = f.word neg r := by
  rw [← near_scale f neg m p k, hm, hp, near_rung f neg r h]
end Go.Proofs.YtebfggiodhaahaaGreatDoor
end
section
namespace Go.Proofs.YtebfggiodhaahaaGreatDoor
open Ieee

abbrev INF : Nat := 9218868437227405312
abbrev NANW : Nat := 9221120237041090560
/-- A word without its sign; its sign. -/
def rg (b : Nat) : Nat := b % 9223372036854775808
def sg (b : Nat) : Nat := b / 9223372036854775808
theorem dbl_binade : double.binade = 4503599627370496 := by decide
theorem dbl_inf : double.infRung = 9218868437227405312 := by decide
theorem dbl_sign : double.signWeight = 9223372036854775808 := by decide
theorem dbl_least : double.leastPlace = -1074 := by decide
theorem dbl_word (neg : Bool) (r : Nat) : double.word neg r = neg.toNat * 9223372036854775808 + r := by
  cases neg <;> simp [Format.word, dbl_sign]
/-- Digits by a power of two, as a rung of 64 bits; of 32. -/
def nr (d : Nat) (p : Int) : Nat := (p + (d.log2 : Nat) + 1022).toNat * 4503599627370496 + d * 2 ^ (52 - d.log2)
def ns (d : Nat) (p : Int) : Nat := (p + (d.log2 : Nat) + 126).toNat * 8388608 + d * 2 ^ (23 - d.log2)
theorem top_bounds {d n : Nat} (h : d ≠ 0) (hl : d.log2 ≤ n) : 2 ^ n ≤ d * 2 ^ (n - d.log2) ∧ d * 2 ^ (n - d.log2) < 2 ^ (n + 1) := by
  have a := Nat.log2_self_le h
  have b := Nat.lt_log2_self (n := d)
  constructor
  · have := Nat.mul_le_mul_right (2 ^ (n - d.log2)) a
    rw [← Nat.pow_add, show d.log2 + (n - d.log2) = n from by omega] at this
    exact this
  · have := Nat.mul_lt_mul_of_pos_right b (Nat.two_pow_pos (n - d.log2))
    rw [← Nat.pow_add, show d.log2 + 1 + (n - d.log2) = n + 1 from by omega] at this
    exact this
theorem nr_spec {d : Nat} {p : Int} (h : d ≠ 0) (hl : d.log2 ≤ 52) (h0 : -1022 ≤ p + (d.log2 : Nat)) (h1 : p + (d.log2 : Nat) ≤ 1023) :
    nr d p < INF ∧ mg double (nr d p) = d * 2 ^ (52 - d.log2) ∧ pl double (nr d p) = p - (52 - d.log2 : Nat) ∧ 4503599627370496 ≤ nr d p ∧ nr d p / 4503599627370496 = (p + (d.log2 : Nat) + 1023).toNat := by
  have hb := top_bounds h hl
  unfold mg pl nr
  rw [dbl_binade, dbl_least]
  generalize d * 2 ^ (52 - d.log2) = M at *
  rw [show (2 : Nat) ^ 52 = 4503599627370496 from by decide, show (2 : Nat) ^ (52 + 1) = 9007199254740992 from by decide] at hb
  obtain ⟨j, hj⟩ : ∃ j : Nat, (p + (d.log2 : Nat) + 1022).toNat = j := ⟨_, rfl⟩
  rw [hj]
  have e1 : ¬ (j * 4503599627370496 + M < 4503599627370496) := by omega
  have e2 : (j * 4503599627370496 + M) / 4503599627370496 = j + 1 := by omega
  rw [if_neg e1, if_neg e1, e2]
  refine ⟨by show _ < 9218868437227405312; omega, by omega, by omega, by omega, by omega⟩
theorem near_dbl (neg : Bool) {d : Nat} {p : Int} (h : d ≠ 0) (hl : d.log2 ≤ 52) (h0 : -1022 ≤ p + (d.log2 : Nat)) (h1 : p + (d.log2 : Nat) ≤ 1023) :
    double.nearest neg d p = neg.toNat * 9223372036854775808 + nr d p := by
  obtain ⟨a, b, c, _⟩ := nr_spec h hl h0 h1
  rw [near_of' double neg (nr d p) d p (52 - d.log2) (by rw [dbl_inf]; exact a) b.symm c.symm, dbl_word]
theorem nr_scale {d : Nat} {p : Int} (k : Nat) (h : d ≠ 0) (hl : d.log2 + k ≤ 52) : nr (d * 2 ^ k) (p - k) = nr d p := by
  unfold nr
  rw [lg_mul d k h]
  have e1 : (p - (k : Int) + ((d.log2 + k : Nat) : Int) + 1022) = p + (d.log2 : Nat) + 1022 := by omega
  have e2 : d * 2 ^ k * 2 ^ (52 - (d.log2 + k)) = d * 2 ^ (52 - d.log2) := by
    rw [Nat.mul_assoc, ← Nat.pow_add, show k + (52 - (d.log2 + k)) = 52 - d.log2 from by omega]
  rw [e1, e2]

/-- A half in 64 bits. -/
def hlf (h : Nat) : Nat :=
  if 31744 < h % 32768 then NANW else
  h / 32768 * 9223372036854775808 + (if h % 32768 = 31744 then INF else if h % 32768 < 1024 then (if h % 32768 = 0 then 0 else nr (h % 32768) (-24)) else h % 32768 * 4398046511104 + 4539628424389459968)
/-- A single in 64 bits. -/
def sng (s : Nat) : Nat :=
  if 2139095040 < s % 2147483648 then NANW else
  s / 2147483648 * 9223372036854775808 + (if s % 2147483648 = 2139095040 then INF else if s % 2147483648 = 0 then 0 else nr (mg single (s % 2147483648)) (pl single (s % 2147483648)))
/-- The nearest single's word. -/
def tosr (b : Nat) : Nat := sg b * 2147483648 + single.nearest false (mg double (rg b)) (pl double (rg b))
def tos (b : Nat) : Nat × Bool :=
  if INF < rg b then (2143289344, true) else if rg b = INF then (sg b * 2147483648 + 2139095040, true) else if sng (tosr b) = b then (tosr b, true) else (0, false)
/-- What is left of a float's digits where a half has no room. -/
def cuth (b : Nat) : Nat :=
  b / 9223372036854775808 * 32768 + (if 1039 ≤ b / 4503599627370496 % 2048 then 31744 else if 1008 < b / 4503599627370496 % 2048 then (b / 4503599627370496 % 2048 - 1008) * 1024 + b % 4503599627370496 / 4398046511104 else (4503599627370496 + b % 4503599627370496) / 2 ^ (1051 - b / 4503599627370496 % 2048))
def toh (b : Nat) : Nat × Bool := if INF < rg b then (32256, true) else if hlf (cuth b) = b then (cuth b, true) else (0, false)

theorem word_parts {n r : Nat} (hr : r < 9223372036854775808) : rg (n * 9223372036854775808 + r) = r ∧ sg (n * 9223372036854775808 + r) = n := by
  unfold rg sg; omega
end Go.Proofs.YtebfggiodhaahaaGreatDoor
end
section
namespace Go.Proofs.YtebfggiodhaahaaGreatDoor
open Ieee

/-- The digits, with the one that is left out; the power of two of the last one that is not nought; the digits up to it. -/
def dg (b : Nat) : Nat := b % 4503599627370496 + (if b / 4503599627370496 % 2048 = 0 then 0 else 4503599627370496)
def pw (b : Nat) : Int := if dg b = 0 then 0 else ((max (b / 4503599627370496 % 2048) 1 : Nat) : Int) - 1075 + (Lib.ctz 64 (dg b) : Nat)
def od (b : Nat) : Nat := if dg b = 0 then 0 else dg b / 2 ^ Lib.ctz 64 (dg b)
def beh (b : Nat) : Nat := if rg b < INF then (-(pw b)).toNat else 0
def whl (b : Nat) : Option Nat := if rg b < INF ∧ 0 ≤ pw b ∧ od b * 2 ^ (pw b).toNat < 2 ^ 256 then some (od b * 2 ^ (pw b).toNat) else none
def cls (b : Nat) : Nat := if INF < rg b then 16 else if rg b = INF then (if sg b = 0 then 4 else 8) else if (whl b).isSome then 0 else if beh b = 0 ∨ 64 < beh b then 2 else 1

theorem dg_rg (b : Nat) : dg b = dg (rg b) := by
  unfold dg rg
  have e1 : b % 9223372036854775808 % 4503599627370496 = b % 4503599627370496 := by omega
  have e2 : b % 9223372036854775808 / 4503599627370496 % 2048 = b / 4503599627370496 % 2048 := by omega
  rw [e1, e2]
theorem rg_rg (b : Nat) : rg (rg b) = rg b := by unfold rg; omega
theorem pw_rg (b : Nat) : pw b = pw (rg b) := by
  unfold pw
  rw [← dg_rg]
  have e2 : rg b / 4503599627370496 % 2048 = b / 4503599627370496 % 2048 := by unfold rg; omega
  rw [e2]
theorem od_rg (b : Nat) : od b = od (rg b) := by unfold od; rw [← dg_rg]
theorem whl_rg (b : Nat) : whl b = whl (rg b) := by unfold whl; rw [← pw_rg, ← od_rg, rg_rg]

/-- The word with the other sign. -/
def osg (b : Nat) : Nat := b ^^^ 9223372036854775808
theorem word_of (b : Nat) : b = sg b * 9223372036854775808 + rg b := by unfold sg rg; omega
/-- What stands beside the sign in a single's word of 64 bits; a half's. -/
def sng0 (r : Nat) : Nat := if r = 2139095040 then INF else if r = 0 then 0 else nr (mg single r) (pl single r)
def hlf0 (r : Nat) : Nat := if r = 31744 then INF else if r < 1024 then (if r = 0 then 0 else nr r (-24)) else r * 4398046511104 + 4539628424389459968
def cuth0 (r : Nat) : Nat := if 1039 ≤ r / 4503599627370496 then 31744 else if 1008 < r / 4503599627370496 then (r / 4503599627370496 - 1008) * 1024 + r % 4503599627370496 / 4398046511104 else (4503599627370496 + r % 4503599627370496) / 2 ^ (1051 - r / 4503599627370496)
end Go.Proofs.YtebfggiodhaahaaGreatDoor
end
section
namespace Go.Proofs.YtebfggiodhaahaaGreatDoor
open Go.RowKit Go.Shelf

theorem isnan_core (b r : Int) (h : bits .andNot .u64 b 9223372036854775808 = r) (w : World) :
    Calls Tryz.prog 97 #[.int .u64 b] w fun e w' => e = .returned (.bool (decide (9218868437227405312 < r))) ∧ w' = w := by
  go_enter Tryz.func97, Tryz.ntmps97
  go_wp2
  go_ret
  exact ⟨rfl, rfl⟩
theorem isfin_core (b r : Int) (h : bits .andNot .u64 b 9223372036854775808 = r) (w : World) :
    Calls Tryz.prog 104 #[.int .u64 b] w fun e w' => e = .returned (.bool (decide (r < 9218868437227405312))) ∧ w' = w := by
  go_enter Tryz.func104, Tryz.ntmps104
  go_wp2
  go_ret
  exact ⟨rfl, rfl⟩
theorem sign_core (b : Int) (w : World) :
    Calls Tryz.prog 108 #[.int .u64 b] w fun e w' => e = .returned (.bool (b / 9223372036854775808 == 1)) ∧ w' = w := by
  go_enter Tryz.func108, Tryz.ntmps108
  go_wp2
  go_ret
  exact ⟨rfl, rfl⟩
theorem field_core (b r : Int) (h : bits .and .u64 (b / 4503599627370496) 2047 = r) (h0 : 0 ≤ r) (h1 : r < 2048) (w : World) :
    Calls Tryz.prog 151 #[.int .u64 b] w fun e w' => e = .returned (.int .i64 r) ∧ w' = w := by
  go_enter Tryz.func151, Tryz.ntmps151
  go_wp2
  go_ret
  exact ⟨rfl, rfl⟩
theorem rg_bits (b : Nat) (hb : b < 18446744073709551616) : bits .andNot .u64 (b : Int) 9223372036854775808 = (rg b : Nat) := by
  have h := u64_andNot_nat b 9223372036854775808 hb (by decide)
  rw [show 18446744073709551615 - 9223372036854775808 = 2 ^ 63 - 1 from by decide, Nat.and_two_pow_sub_one_eq_mod] at h
  exact h
theorem field_bits (b : Nat) (hb : b < 18446744073709551616) : bits .and .u64 ((b : Int) / 4503599627370496) 2047 = ((b / 4503599627370496 % 2048 : Nat) : Int) := by
  have h := u64_and_nat (b / 4503599627370496) 2047 (by omega) (by decide)
  rw [show (2047 : Nat) = 2 ^ 11 - 1 from by decide, Nat.and_two_pow_sub_one_eq_mod] at h
  exact h
section
variable (b : Nat) (hb : b < 18446744073709551616)
include hb
theorem isnan_yes (h : INF < rg b) (w : World) : Calls Tryz.prog 97 #[.int .u64 b] w fun e w' => e = .returned (.bool true) ∧ w' = w := by
  have := isnan_core b _ (rg_bits b hb) w
  rw [decide_eq_true (show (9218868437227405312 : Int) < (rg b : Nat) from by have h5 : INF = 9218868437227405312 := rfl; omega)] at this
  exact this
theorem isnan_no (h : ¬ INF < rg b) (w : World) : Calls Tryz.prog 97 #[.int .u64 b] w fun e w' => e = .returned (.bool false) ∧ w' = w := by
  have := isnan_core b _ (rg_bits b hb) w
  rw [decide_eq_false (show ¬ (9218868437227405312 : Int) < (rg b : Nat) from by have h5 : INF = 9218868437227405312 := rfl; omega)] at this
  exact this
theorem isfin_yes (h : rg b < INF) (w : World) : Calls Tryz.prog 104 #[.int .u64 b] w fun e w' => e = .returned (.bool true) ∧ w' = w := by
  have := isfin_core b _ (rg_bits b hb) w
  rw [decide_eq_true (show ((rg b : Nat) : Int) < 9218868437227405312 from by have h5 : INF = 9218868437227405312 := rfl; omega)] at this
  exact this
theorem isfin_no (h : ¬ rg b < INF) (w : World) : Calls Tryz.prog 104 #[.int .u64 b] w fun e w' => e = .returned (.bool false) ∧ w' = w := by
  have := isfin_core b _ (rg_bits b hb) w
  rw [decide_eq_false (show ¬ ((rg b : Nat) : Int) < 9218868437227405312 from by have h5 : INF = 9218868437227405312 := rfl; omega)] at this
  exact this
theorem field_any (w : World) : Calls Tryz.prog 151 #[.int .u64 b] w fun e w' => e = .returned (.int .i64 ((b / 4503599627370496 % 2048 : Nat) : Int)) ∧ w' = w :=
  field_core b _ (field_bits b hb) (by omega) (by omega) w
end
theorem hsign_no (b : Nat) (h : sg b = 0) (w : World) : Calls Tryz.prog 108 #[.int .u64 b] w fun e w' => e = .returned (.bool false) ∧ w' = w := by
  have := sign_core b w
  rw [show ((b : Int) / 9223372036854775808 == 1) = false from by rw [beq_eq_false_iff_ne]; unfold sg at h; omega] at this
  exact this
theorem hsign_yes (b : Nat) (h : sg b = 1) (w : World) : Calls Tryz.prog 108 #[.int .u64 b] w fun e w' => e = .returned (.bool true) ∧ w' = w := by
  have := sign_core b w
  rw [show ((b : Int) / 9223372036854775808 == 1) = true from by rw [beq_iff_eq]; unfold sg at h; omega] at this
  exact this

theorem canon_nan (b : Int) (c : ∀ W, Calls Tryz.prog 97 #[.int .u64 b] W fun e w' => e = .returned (.bool true) ∧ w' = W) (w : World) :
    Calls Tryz.prog 85 #[.int .u64 b] w fun e w' => e = .returned (.int .u64 9221120237041090560) ∧ w' = w := by
  have C := Lib.hid c; clear c
  go_enter Tryz.func85, Tryz.ntmps85
  go_wp2_with fail
  refine (C.out _).mono ?_
  rintro e w1 ⟨rfl, rfl⟩
  go_wp2
  go_ret
  exact ⟨rfl, rfl⟩
theorem canon_id (b : Int) (c : ∀ W, Calls Tryz.prog 97 #[.int .u64 b] W fun e w' => e = .returned (.bool false) ∧ w' = W) (w : World) :
    Calls Tryz.prog 85 #[.int .u64 b] w fun e w' => e = .returned (.int .u64 b) ∧ w' = w := by
  have C := Lib.hid c; clear c
  go_enter Tryz.func85, Tryz.ntmps85
  go_wp2_with fail
  refine (C.out _).mono ?_
  rintro e w1 ⟨rfl, rfl⟩
  go_wp2
  go_ret
  exact ⟨rfl, rfl⟩
/-- What Canon answers. -/
def can (b : Nat) : Nat := if INF < rg b then NANW else b
theorem canon_any (b : Nat) (hb : b < 18446744073709551616) (w : World) :
    Calls Tryz.prog 85 #[.int .u64 b] w fun e w' => e = .returned (.int .u64 (can b : Nat)) ∧ w' = w := by
  unfold can
  by_cases h : INF < rg b
  · rw [if_pos h]; exact canon_nan b (fun W => isnan_yes b hb h W) w
  · rw [if_neg h]; exact canon_id b (fun W => isnan_no b hb h W) w

set_option maxHeartbeats 400000 in
theorem parts_norm (b M0 M F t : Int) (e1 : bits .and .u64 b 4503599627370495 = M0) (e2 : bits .or .u64 M0 4503599627370496 = M) (hM : M ≠ 0) (hF0 : 1 ≤ F) (hF1 : F < 2048) (ht0 : 0 ≤ t) (ht1 : t < 64)
    (c1 : ∀ W, Calls Tryz.prog 151 #[.int .u64 b] W fun e w' => e = .returned (.int .i64 F) ∧ w' = W)
    (c2 : ∀ W, Tb W → Calls Tryz.prog 152 #[.int .u64 M] W fun e w' => e = .returned (.int .i64 t) ∧ w' = W) (w : World) (hT : Tb w) :
    Calls Tryz.prog 105 #[.int .u64 b] w fun e w' => e = .returned (.tuple #[.int .u64 (M / 2 ^ t.toNat), .int .i64 (F - 1023 - 52 + t)]) ∧ w' = w := by
  have C1 := Lib.hid c1; have C2 := Lib.hid c2; have HT := Lib.hid hT; clear c1 c2 hT
  have h3 : ((F == 0) : Bool) = false := by rw [beq_eq_false_iff_ne]; omega
  have h4 : ((F != 0) : Bool) = true := by rw [bne_iff_ne]; omega
  have h5 : ((M == 0) : Bool) = false := by rw [beq_eq_false_iff_ne]; exact hM
  have h6 : max F 1 = F := by omega
  clear hM
  go_enter Tryz.func105, Tryz.ntmps105
  go_wp2_with fail
  refine (C1.out _).mono ?_
  rintro e w1 ⟨rfl, rfl⟩
  go_wp2_with fail
  refine (C2.out _ HT.out).mono ?_
  rintro e w1 ⟨rfl, rfl⟩
  go_wp2_with fail
  refine (C1.out _).mono ?_
  rintro e w1 ⟨rfl, rfl⟩
  go_wp2
  go_ret2
  exact ⟨rfl, rfl⟩
set_option maxHeartbeats 400000 in
theorem parts_sub (b M t : Int) (e1 : bits .and .u64 b 4503599627370495 = M) (hM : M ≠ 0) (ht0 : 0 ≤ t) (ht1 : t < 64)
    (c1 : ∀ W, Calls Tryz.prog 151 #[.int .u64 b] W fun e w' => e = .returned (.int .i64 0) ∧ w' = W)
    (c2 : ∀ W, Tb W → Calls Tryz.prog 152 #[.int .u64 M] W fun e w' => e = .returned (.int .i64 t) ∧ w' = W) (w : World) (hT : Tb w) :
    Calls Tryz.prog 105 #[.int .u64 b] w fun e w' => e = .returned (.tuple #[.int .u64 (M / 2 ^ t.toNat), .int .i64 (1 - 1023 - 52 + t)]) ∧ w' = w := by
  have C1 := Lib.hid c1; have C2 := Lib.hid c2; have HT := Lib.hid hT; clear c1 c2 hT
  have h5 : ((M == 0) : Bool) = false := by rw [beq_eq_false_iff_ne]; exact hM
  clear hM
  go_enter Tryz.func105, Tryz.ntmps105
  go_wp2_with fail
  refine (C1.out _).mono ?_
  rintro e w1 ⟨rfl, rfl⟩
  go_wp2_with fail
  refine (C2.out _ HT.out).mono ?_
  rintro e w1 ⟨rfl, rfl⟩
  go_wp2_with fail
  refine (C1.out _).mono ?_
  rintro e w1 ⟨rfl, rfl⟩
  go_wp2
  go_ret2
  exact ⟨rfl, rfl⟩
theorem parts_zero (b : Int) (e1 : bits .and .u64 b 4503599627370495 = 0)
    (c1 : ∀ W, Calls Tryz.prog 151 #[.int .u64 b] W fun e w' => e = .returned (.int .i64 0) ∧ w' = W) (w : World) :
    Calls Tryz.prog 105 #[.int .u64 b] w fun e w' => e = .returned (.tuple #[.int .u64 0, .int .i64 0]) ∧ w' = w := by
  have C1 := Lib.hid c1; clear c1
  go_enter Tryz.func105, Tryz.ntmps105
  go_wp2_with fail
  refine (C1.out _).mono ?_
  rintro e w1 ⟨rfl, rfl⟩
  go_wp2
  go_ret2
  exact ⟨rfl, rfl⟩
theorem frac_bits (b : Nat) (hb : b < 18446744073709551616) : bits .and .u64 (b : Int) 4503599627370495 = ((b % 4503599627370496 : Nat) : Int) := by
  have h := u64_and_nat b 4503599627370495 hb (by decide)
  rw [show (4503599627370495 : Nat) = 2 ^ 52 - 1 from by decide, Nat.and_two_pow_sub_one_eq_mod] at h
  exact h
theorem hid_bits (b : Nat) : bits .or .u64 ((b % 4503599627370496 : Nat) : Int) 4503599627370496 = ((b % 4503599627370496 + 4503599627370496 : Nat) : Int) := by
  have h := u64_or_nat (b % 4503599627370496) 4503599627370496 (by omega) (by decide)
  have h2 := Nat.two_pow_add_eq_or_of_lt (i := 52) (b := b % 4503599627370496) (by omega) 1
  rw [Nat.mul_one, Nat.or_comm, show (2 : Nat) ^ 52 = 4503599627370496 from by decide] at h2
  rw [← h2, Nat.add_comm] at h
  exact h
theorem pow_div_cast (M t : Nat) : ((M : Int) / 2 ^ ((t : Nat) : Int).toNat) = ((M / 2 ^ t : Nat) : Int) := by
  rw [Int.toNat_natCast, Int.natCast_ediv, Int.natCast_pow]; rfl
theorem dg_lt (b : Nat) : dg b < 18446744073709551616 := by unfold dg; split <;> omega
theorem parts_any (b : Nat) (hb : b < 18446744073709551616) (w : World) (hT : Tb w) :
    Calls Tryz.prog 105 #[.int .u64 b] w fun e w' => e = .returned (.tuple #[.int .u64 (od b : Nat), .int .i64 (pw b)]) ∧ w' = w := by
  have hf := fun W => field_any b hb W
  have hdl := dg_lt b
  have e1 := frac_bits b hb
  by_cases h0 : dg b = 0
  · have hF : b / 4503599627370496 % 2048 = 0 := by
      apply Decidable.byContradiction
      intro h; unfold dg at h0; rw [if_neg h] at h0; omega
    have hm : b % 4503599627370496 = 0 := by unfold dg at h0; omega
    rw [hF] at hf
    rw [hm] at e1
    have := parts_zero b e1 hf w
    unfold od pw
    rw [if_pos h0, if_pos h0]
    exact this
  · have ht : Lib.ctz 64 (dg b) < 64 := by obtain ⟨m, _, h⟩ := ctz_word h0 hdl; exact h
    have hc := fun W hW => tz_any (dg b) hdl W hW
    unfold od pw
    rw [if_neg h0, if_neg h0]
    by_cases hF : b / 4503599627370496 % 2048 = 0
    · have hd : dg b = b % 4503599627370496 := by unfold dg; rw [if_pos hF]; rfl
      rw [hF] at hf
      rw [hd] at h0 ht hc ⊢
      have := parts_sub b _ (Lib.ctz 64 (b % 4503599627370496) : Nat) e1 (by omega) (by omega) (by omega) hf hc w hT
      rw [pow_div_cast] at this
      rw [hF, show ((max 0 1 : Nat) : Int) - 1075 + (Lib.ctz 64 (b % 4503599627370496) : Nat) = 1 - 1023 - 52 + (Lib.ctz 64 (b % 4503599627370496) : Nat) from by omega]
      exact this
    · have hd : dg b = b % 4503599627370496 + 4503599627370496 := by unfold dg; rw [if_neg hF]
      rw [hd] at h0 ht hc ⊢
      have := parts_norm b _ _ _ (Lib.ctz 64 (b % 4503599627370496 + 4503599627370496) : Nat) e1 (hid_bits b) (by omega) (show (1 : Int) ≤ ((b / 4503599627370496 % 2048 : Nat) : Int) by omega) (by omega) (by omega) (by omega) hf hc w hT
      rw [pow_div_cast] at this
      rw [show ((max (b / 4503599627370496 % 2048) 1 : Nat) : Int) - 1075 + (Lib.ctz 64 (b % 4503599627370496 + 4503599627370496) : Nat) = ((b / 4503599627370496 % 2048 : Nat) : Int) - 1023 - 52 + (Lib.ctz 64 (b % 4503599627370496 + 4503599627370496) : Nat) from by omega]
      exact this
theorem pw_bound (b : Nat) : -1074 ≤ pw b ∧ pw b ≤ 2047 := by
  unfold pw
  split
  · omega
  · rename_i h0
    obtain ⟨m, _, h⟩ := ctz_word h0 (dg_lt b)
    omega

theorem behind_no (b : Int) (c : ∀ W, Calls Tryz.prog 104 #[.int .u64 b] W fun e w' => e = .returned (.bool false) ∧ w' = W) (w : World) :
    Calls Tryz.prog 63 #[.int .u64 b] w fun e w' => e = .returned (.int .i64 0) ∧ w' = w := by
  have C := Lib.hid c; clear c
  go_enter Tryz.func63, Tryz.ntmps63
  go_wp2_with fail
  refine (C.out _).mono ?_
  rintro e w1 ⟨rfl, rfl⟩
  go_wp2
  go_ret
  exact ⟨rfl, rfl⟩
theorem behind_yes (b d p : Int) (h0 : -2000 ≤ p) (h1 : p ≤ 3000) (c : ∀ W, Calls Tryz.prog 104 #[.int .u64 b] W fun e w' => e = .returned (.bool true) ∧ w' = W)
    (c2 : ∀ W, Tb W → Calls Tryz.prog 105 #[.int .u64 b] W fun e w' => e = .returned (.tuple #[.int .u64 d, .int .i64 p]) ∧ w' = W) (w : World) (hT : Tb w) :
    Calls Tryz.prog 63 #[.int .u64 b] w fun e w' => e = .returned (.int .i64 (max (-p) 0)) ∧ w' = w := by
  have C := Lib.hid c; have C2 := Lib.hid c2; have HT := Lib.hid hT; clear c c2 hT
  go_enter Tryz.func63, Tryz.ntmps63
  go_wp2_with fail
  refine (C.out _).mono ?_
  rintro e w1 ⟨rfl, rfl⟩
  go_wp2_with fail
  refine (C2.out _ HT.out).mono ?_
  rintro e w1 ⟨rfl, rfl⟩
  go_wp2
  go_ret
  exact ⟨rfl, rfl⟩
theorem behind_any (b : Nat) (hb : b < 18446744073709551616) (w : World) (hT : Tb w) :
    Calls Tryz.prog 63 #[.int .u64 b] w fun e w' => e = .returned (.int .i64 (beh b : Nat)) ∧ w' = w := by
  have hp := pw_bound b
  unfold beh
  by_cases h : rg b < INF
  · rw [if_pos h]
    have := behind_yes b _ (pw b) (by omega) (by omega) (fun W => isfin_yes b hb h W) (fun W hW => parts_any b hb W hW) w hT
    rw [show (max (-pw b) 0) = (((-(pw b)).toNat : Nat) : Int) from by omega] at this
    exact this
  · rw [if_neg h]
    exact behind_no b (fun W => isfin_no b hb h W) w
end Go.Proofs.YtebfggiodhaahaaGreatDoor
end
section
namespace Go.Proofs.YtebfggiodhaahaaGreatDoor
open Go.RowKit Go.Shelf

theorem f64bits (x : Nat) (w : World) : (callFunc 110 #[.float .f64 x]).run Tryz.prog w = .ok (.value (.int .u64 x)) w := by kernel_rfl
theorem f64from (x : Nat) (w : World) : (callFunc 109 #[.int .u64 x]).run Tryz.prog w = .ok (.value (.float .f64 x)) w := by kernel_rfl
theorem scaled_zero (p : Int) (w : World) :
    Calls Tryz.prog 197 #[.int .u64 0, .int .i64 p] w fun e w' => e = .returned (.int .u64 0) ∧ w' = w := by
  go_enter Tryz.func197, Tryz.ntmps197
  go_wp2
  go_ret
  exact ⟨rfl, rfl⟩
set_option maxRecDepth 100000 in
theorem scaled_core (d p y : Int) (x : Nat) (h0 : (d == 0) = false) (h1 : floatOfInt .f64 d = x) (hy : IntKind.u64.wrap (↑x + IntKind.u64.wrap (IntKind.u64.wrap p * 4503599627370496)) = y) (w : World) :
    Calls Tryz.prog 197 #[.int .u64 d, .int .i64 p] w fun e w' => e = .returned (.int .u64 y) ∧ w' = w := by
  have hb := fun W => f64bits x W
  have HY := Lib.hid hy; clear hy
  go_enter Tryz.func197, Tryz.ntmps197
  go_wp2
  go_ret
  exact ⟨by rw [← HY.out]; rfl, rfl⟩
theorem scaled_any (d : Nat) (p : Int) (h : d ≠ 0) (hl : d.log2 ≤ 52) (h0 : -1022 ≤ p + (d.log2 : Nat)) (h1 : p + (d.log2 : Nat) ≤ 1023) (w : World) :
    Calls Tryz.prog 197 #[.int .u64 d, .int .i64 p] w fun e w' => e = .returned (.int .u64 (nr d p : Nat)) ∧ w' = w := by
  have hb := top_bounds h hl
  refine scaled_core (d : Int) p _ (nr d 0) (by rw [beq_eq_false_iff_ne]; omega) ?_ ?_ w
  · have := near_dbl false (d := d) (p := 0) h hl (by omega) (by omega)
    rw [Bool.toNat_false, Nat.zero_mul, Nat.zero_add] at this
    rw [← this]
    show Ieee.double.nearest (decide ((d : Int) < 0)) ((d : Int).natAbs) 0 = _
    rw [decide_eq_false (by omega), Int.natAbs_natCast]
  · rw [IntKind.wrap_u64, IntKind.wrap_u64, IntKind.wrap_u64]
    unfold nr
    generalize d * 2 ^ (52 - d.log2) = M at *
    rw [show (2 : Nat) ^ 52 = 4503599627370496 from by decide, show (2 : Nat) ^ (52 + 1) = 9007199254740992 from by decide] at hb
    generalize d.log2 = l at *
    omega

end Go.Proofs.YtebfggiodhaahaaGreatDoor
end
section
namespace Go.Proofs.YtebfggiodhaahaaGreatDoor
open Go.RowKit Go.Shelf

end Go.Proofs.YtebfggiodhaahaaGreatDoor
end
section
namespace Go.Proofs.YtebfggiodhaahaaGreatDoor
open Go.RowKit Go.Shelf
open Ieee (Datum Format)

def nanDraw (s : Nat) (W : World) : Nat := Question.cut (.nanConv .f64 s) (W.tape W.drawn (.nanConv .f64 s))
def wideDraw (s : Nat) (W : World) : Nat := Question.cut (.floatToFloat s) (W.tape W.drawn (.floatToFloat s))
end Go.Proofs.YtebfggiodhaahaaGreatDoor
end
section
namespace Go.Proofs.YtebfggiodhaahaaGreatDoor
open Go.RowKit Go.Shelf
attribute [local go_sem ↓] eql_nat neq_nat eql_int5 neq_int5

set_option maxHeartbeats 1000000 in
set_option maxRecDepth 100000 in
theorem whole_no (b : Int)
    (k1 : ∀ W, Calls Tryz.prog 104 #[.int .u64 b] W fun e w' => e = .returned (.bool false) ∧ w' = W) (w : World) :
    Calls Tryz.prog 64 #[.int .u64 b] w fun e w' => e = .returned (.tuple #[.agg #[.bool false, .int .u64 0, .int .u64 0, .int .u64 0, .int .u64 0], .bool false]) ∧ Below w.heap.size w w' := by
  have K1 := Lib.hid k1; clear k1
  go_enter Tryz.func64, Tryz.ntmps64
  go_wp2_with fail
  refine (K1.out _).mono ?_
  rintro e w1 ⟨rfl, hw⟩
  rw [hw]; clear hw w1
  go_wp2
  exact bodyPost_ret (v := .tuple #[.agg #[.bool false, .int .u64 0, .int .u64 0, .int .u64 0, .int .u64 0], .bool false]) (by simp [results, Tryz.results64, go_sem]) rfl ⟨rfl, by repeat (first | (with_reducible exact Below.refl _ _) | (with_reducible refine bal ?_ _) | (with_reducible refine Below.drew ?_) | (with_reducible refine bdn ?_ _))⟩

set_option maxHeartbeats 1000000 in
set_option maxRecDepth 100000 in
theorem whole_false (b d p x0 x1 x2 x3 : Int) (q : Bool)
    (k1 : ∀ W, Calls Tryz.prog 104 #[.int .u64 b] W fun e w' => e = .returned (.bool true) ∧ w' = W)
    (k2 : ∀ W, Tb W → Calls Tryz.prog 105 #[.int .u64 b] W fun e w' => e = .returned (.tuple #[.int .u64 d, .int .i64 p]) ∧ w' = W)
    (k3 : ∀ W, Calls Tryz.prog 106 #[.agg #[.int .u64 d, .int .u64 0, .int .u64 0, .int .u64 0], .int .i64 p] W fun e w' => e = .returned (.tuple #[.agg #[.int .u64 x0, .int .u64 x1, .int .u64 x2, .int .u64 x3], .bool q]) ∧ Below W.heap.size W w')
    (k4 : ∀ W, Calls Tryz.prog 108 #[.int .u64 b] W fun e w' => e = .returned (.bool false) ∧ w' = W) (w : World) (hT : Tb w) :
    Calls Tryz.prog 64 #[.int .u64 b] w fun e w' => e = .returned (.tuple #[.agg #[.bool false, .int .u64 x0, .int .u64 x1, .int .u64 x2, .int .u64 x3], .bool q]) ∧ Below w.heap.size w w' := by
  have K1 := Lib.hid k1; clear k1
  have K2 := Lib.hid k2; clear k2
  have K3 := Lib.hid k3; clear k3
  have K4 := Lib.hid k4; clear k4
  have HT := Lib.hid hT; clear hT
  go_enter Tryz.func64, Tryz.ntmps64
  go_wp2_with fail
  refine (K1.out _).mono ?_
  rintro e w1 ⟨rfl, hw⟩
  rw [hw]; clear hw w1
  go_wp2_with fail
  refine (K2.out _ (tb_on HT.out (by repeat (first | (with_reducible exact Below.refl _ _) | (with_reducible refine bal ?_ _) | (with_reducible refine Below.drew ?_) | (with_reducible refine bdn ?_ _))))).mono ?_
  rintro e w1 ⟨rfl, hw⟩
  rw [hw]; clear hw w1
  go_wp2_with fail
  (with_reducible refine (of_any _ _).mono ?_)
  rintro e w1 ⟨rfl, hb⟩
  have BW1 : Below w.heap.size w w1 := btr (by repeat (first | (with_reducible exact Below.refl _ _) | (with_reducible refine bal ?_ _) | (with_reducible refine Below.drew ?_) | (with_reducible refine bdn ?_ _))) hb
  have R1 : Row5 w1 w.heap.size (.bool false) (.int .u64 0) (.int .u64 0) (.int .u64 0) (.int .u64 0) := Row5.keep hb (by repeat (first | (with_reducible exact Row5.new _ _ _ _ _ _) | ((with_reducible refine Row5.new' _ ?_ _ _ _ _ _); (simp; done)) | (with_reducible refine Row5.alloc ?_ _) | (with_reducible refine Row5.drew ?_)))
  clear hb
  go_wp2_with fail
  (with_reducible refine (K3.out _).mono ?_)
  rintro e w2 ⟨rfl, hb⟩
  have BW2 : Below w.heap.size w w2 := btr (by repeat (first | (with_reducible exact BW1) | (with_reducible refine bal ?_ _) | (with_reducible refine Below.drew ?_) | (with_reducible refine bdn ?_ _))) hb
  have R2 : Row5 w2 w.heap.size (.bool false) (.int .u64 0) (.int .u64 0) (.int .u64 0) (.int .u64 0) := Row5.keep hb (by repeat (first | (with_reducible exact R1) | (with_reducible refine Row5.alloc ?_ _) | (with_reducible refine Row5.drew ?_)))
  clear R1
  clear BW1
  clear hb
  go_upto_region 5 with (fail)
  go_name_world w3 hw3
  have BW3 : Below w.heap.size w w3 := by rw [← hw3]; repeat (first | (with_reducible exact BW2) | (with_reducible refine bal ?_ _) | (with_reducible refine Below.drew ?_) | (with_reducible refine bdn ?_ _))
  have R3 : Row5 w3 w.heap.size (.bool false) (.int .u64 0) (.int .u64 0) (.int .u64 0) (.int .u64 0) := by rw [← hw3]; exact (by repeat (first | (with_reducible exact R2) | (with_reducible refine Row5.alloc ?_ _) | (with_reducible refine Row5.drew ?_)))
  have apN_R := R2.lt
  have apN_0 := (BW2).size
  have N3 : Row4 w3 w2.heap.size (.int .u64 x0) (.int .u64 x1) (.int .u64 x2) (.int .u64 x3) := by rw [← hw3]; exact (by repeat (first | (with_reducible exact Row4.new _ _ _ _ _) | ((with_reducible refine Row4.new' _ ?_ _ _ _ _); (simp; done)) | (with_reducible refine Row4.alloc ?_ _) | (with_reducible refine Row4.drew ?_)))
  clear R2
  clear BW2
  clear hw3
  obtain ⟨Rc0, Rc1, Rc2, Rc3, Rc4⟩ := R3.parts
  obtain ⟨Rf0, Rf1, Rf2, Rf3, Rf4⟩ := R3.free
  obtain ⟨Nc0, Nc1, Nc2, Nc3⟩ := N3.four
  obtain ⟨Nf0, Nf1, Nf2, Nf3⟩ := N3.free4
  have lt_R := R3.lt
  have lt_N := N3.lt
  go_region_with (first | (go_at_call 108; refine (K4.out _).mono ?_; rintro e w9 ⟨rfl, hw⟩; rw [hw]; clear hw w9))
  all_goals
    go_wp2
    exact bodyPost_ret (v := .tuple #[.agg #[.bool false, .int .u64 x0, .int .u64 x1, .int .u64 x2, .int .u64 x3], .bool q]) (by simp [results, Tryz.results64, go_sem, Rc0, Rc1, Rc2, Rc3, Rc4]) rfl ⟨rfl, by repeat (first | (with_reducible exact BW3) | (with_reducible refine bal ?_ _) | (with_reducible refine Below.drew ?_) | (with_reducible refine bdn ?_ _) | ((with_reducible refine bsc ?_ ?_ _); rotate_left; (focus (simp only []; omega))))⟩

set_option maxHeartbeats 1000000 in
set_option maxRecDepth 100000 in
theorem whole_true (b d p x0 x1 x2 x3 : Int) (q : Bool)
    (k1 : ∀ W, Calls Tryz.prog 104 #[.int .u64 b] W fun e w' => e = .returned (.bool true) ∧ w' = W)
    (k2 : ∀ W, Tb W → Calls Tryz.prog 105 #[.int .u64 b] W fun e w' => e = .returned (.tuple #[.int .u64 d, .int .i64 p]) ∧ w' = W)
    (k3 : ∀ W, Calls Tryz.prog 106 #[.agg #[.int .u64 d, .int .u64 0, .int .u64 0, .int .u64 0], .int .i64 p] W fun e w' => e = .returned (.tuple #[.agg #[.int .u64 x0, .int .u64 x1, .int .u64 x2, .int .u64 x3], .bool q]) ∧ Below W.heap.size W w')
    (k4 : ∀ W, Calls Tryz.prog 108 #[.int .u64 b] W fun e w' => e = .returned (.bool true) ∧ w' = W) (w : World) (hT : Tb w) :
    Calls Tryz.prog 64 #[.int .u64 b] w fun e w' => e = .returned (.tuple #[.agg #[.bool (!eq4 x0 x1 x2 x3 0 0 0 0), .int .u64 x0, .int .u64 x1, .int .u64 x2, .int .u64 x3], .bool q]) ∧ Below w.heap.size w w' := by
  have K1 := Lib.hid k1; clear k1
  have K2 := Lib.hid k2; clear k2
  have K3 := Lib.hid k3; clear k3
  have K4 := Lib.hid k4; clear k4
  have HT := Lib.hid hT; clear hT
  go_enter Tryz.func64, Tryz.ntmps64
  go_wp2_with fail
  refine (K1.out _).mono ?_
  rintro e w1 ⟨rfl, hw⟩
  rw [hw]; clear hw w1
  go_wp2_with fail
  refine (K2.out _ (tb_on HT.out (by repeat (first | (with_reducible exact Below.refl _ _) | (with_reducible refine bal ?_ _) | (with_reducible refine Below.drew ?_) | (with_reducible refine bdn ?_ _))))).mono ?_
  rintro e w1 ⟨rfl, hw⟩
  rw [hw]; clear hw w1
  go_wp2_with fail
  (with_reducible refine (of_any _ _).mono ?_)
  rintro e w1 ⟨rfl, hb⟩
  have BW1 : Below w.heap.size w w1 := btr (by repeat (first | (with_reducible exact Below.refl _ _) | (with_reducible refine bal ?_ _) | (with_reducible refine Below.drew ?_) | (with_reducible refine bdn ?_ _))) hb
  have R1 : Row5 w1 w.heap.size (.bool false) (.int .u64 0) (.int .u64 0) (.int .u64 0) (.int .u64 0) := Row5.keep hb (by repeat (first | (with_reducible exact Row5.new _ _ _ _ _ _) | ((with_reducible refine Row5.new' _ ?_ _ _ _ _ _); (simp; done)) | (with_reducible refine Row5.alloc ?_ _) | (with_reducible refine Row5.drew ?_)))
  clear hb
  go_wp2_with fail
  (with_reducible refine (K3.out _).mono ?_)
  rintro e w2 ⟨rfl, hb⟩
  have BW2 : Below w.heap.size w w2 := btr (by repeat (first | (with_reducible exact BW1) | (with_reducible refine bal ?_ _) | (with_reducible refine Below.drew ?_) | (with_reducible refine bdn ?_ _))) hb
  have R2 : Row5 w2 w.heap.size (.bool false) (.int .u64 0) (.int .u64 0) (.int .u64 0) (.int .u64 0) := Row5.keep hb (by repeat (first | (with_reducible exact R1) | (with_reducible refine Row5.alloc ?_ _) | (with_reducible refine Row5.drew ?_)))
  clear R1
  clear BW1
  clear hb
  go_upto_region 5 with (fail)
  go_name_world w3 hw3
  have BW3 : Below w.heap.size w w3 := by rw [← hw3]; repeat (first | (with_reducible exact BW2) | (with_reducible refine bal ?_ _) | (with_reducible refine Below.drew ?_) | (with_reducible refine bdn ?_ _))
  have R3 : Row5 w3 w.heap.size (.bool false) (.int .u64 0) (.int .u64 0) (.int .u64 0) (.int .u64 0) := by rw [← hw3]; exact (by repeat (first | (with_reducible exact R2) | (with_reducible refine Row5.alloc ?_ _) | (with_reducible refine Row5.drew ?_)))
  have apN_R := R2.lt
  have apN_0 := (BW2).size
  have N3 : Row4 w3 w2.heap.size (.int .u64 x0) (.int .u64 x1) (.int .u64 x2) (.int .u64 x3) := by rw [← hw3]; exact (by repeat (first | (with_reducible exact Row4.new _ _ _ _ _) | ((with_reducible refine Row4.new' _ ?_ _ _ _ _); (simp; done)) | (with_reducible refine Row4.alloc ?_ _) | (with_reducible refine Row4.drew ?_)))
  clear R2
  clear BW2
  clear hw3
  obtain ⟨Rc0, Rc1, Rc2, Rc3, Rc4⟩ := R3.parts
  obtain ⟨Rf0, Rf1, Rf2, Rf3, Rf4⟩ := R3.free
  obtain ⟨Nc0, Nc1, Nc2, Nc3⟩ := N3.four
  obtain ⟨Nf0, Nf1, Nf2, Nf3⟩ := N3.free4
  have lt_R := R3.lt
  have lt_N := N3.lt
  go_region_held3 (fun w' => w'.cell? ⟨w2.heap.size, 0, none⟩ = some (.int .u64 x0) ∧ w'.cell? ⟨w2.heap.size, 1, none⟩ = some (.int .u64 x1) ∧ w'.cell? ⟨w2.heap.size, 2, none⟩ = some (.int .u64 x2) ∧ w'.cell? ⟨w2.heap.size, 3, none⟩ = some (.int .u64 x3))
    ((refine Row4.four ?_; (repeat (first | (with_reducible assumption) | (with_reducible refine Row4.alloc ?_ _) | (with_reducible refine Row4.drew ?_) | ((with_reducible refine Row4.set ?_ ?_ _); rotate_left; (focus (omega))))); done))
    (first | (go_at_call 108; refine (K4.out _).mono ?_; rintro e w9 ⟨rfl, rfl⟩) | (go_at_call 107; refine (of_one _ _).mono ?_; rintro e w9 ⟨rfl, o1, rfl⟩))
  all_goals
    go_wp2
    have RE := Row5.alloc (Row5.set5 R3 (.bool (!eq4 x0 x1 x2 x3 0 0 0 0)) (.int .u64 x0) (.int .u64 x1) (.int .u64 x2) (.int .u64 x3)) o1
    obtain ⟨e0, e1, e2, e3, e4⟩ := RE.parts
    exact bodyPost_ret (v := .tuple #[.agg #[.bool (!eq4 x0 x1 x2 x3 0 0 0 0), .int .u64 x0, .int .u64 x1, .int .u64 x2, .int .u64 x3], .bool q]) (by simp [results, Tryz.results64, go_sem, e0, e1, e2, e3, e4]) rfl ⟨rfl, by repeat (first | (with_reducible exact BW3) | (with_reducible refine bal ?_ _) | (with_reducible refine Below.drew ?_) | (with_reducible refine bdn ?_ _) | ((with_reducible refine bsc ?_ ?_ _); rotate_left; (focus (simp only []; omega))))⟩

/-- What Whole answers. -/
def WEnd (b : Nat) : Value := match whl b with
  | some n => .tuple #[Iz (if sg b = 1 then -(n : Int) else n), .bool true]
  | none => .tuple #[Z5, .bool false]
theorem od_lt (b : Nat) : od b < 18446744073709551616 := by
  have := dg_lt b
  unfold od
  split
  · omega
  · exact Nat.lt_of_le_of_lt (Nat.div_le_self _ _) this
theorem whole_of (b : Nat) (hb : b < 18446744073709551616) (h : rg b < INF) (n : Nat) (q : Bool) (hn : n < 2 ^ 256)
    (hs : ∀ W, Calls Tryz.prog 106 #[N4 (od b), .int .i64 (pw b)] W fun e w' => e = .returned (.tuple #[N4 n, .bool q]) ∧ Below W.heap.size W w') (w : World) (hT : Tb w) :
    Calls Tryz.prog 64 #[.int .u64 b] w fun e w' => e = .returned (.tuple #[Iz (if sg b = 1 then -(n : Int) else n), .bool q]) ∧ Below w.heap.size w w' := by
  rw [N4_small _ (od_lt b)] at hs
  have h2 : sg b = 0 ∨ sg b = 1 := by unfold sg; omega
  rcases h2 with h2 | h2
  · rw [if_neg (by omega), Iz_nat]
    exact whole_false b _ _ _ _ _ _ q (fun W => isfin_yes b hb h W) (fun W hW => parts_any b hb W hW) hs (fun W => hsign_no b h2 W) w hT
  · rw [if_pos h2]
    refine (whole_true b _ _ _ _ _ _ q (fun W => isfin_yes b hb h W) (fun W hW => parts_any b hb W hW) hs (fun W => hsign_yes b h2 W) w hT).mono ?_
    rintro e w' ⟨rfl, hbw⟩
    refine ⟨?_, hbw⟩
    rw [zq n hn]
    by_cases h0 : n = 0
    · subst h0; rfl
    · rw [Iz_neg h0, decide_eq_false h0]; rfl
theorem whole_any (b : Nat) (hb : b < 18446744073709551616) (w : World) (hT : Tb w) :
    Calls Tryz.prog 64 #[.int .u64 b] w fun e w' => e = .returned (WEnd b) ∧ Below w.heap.size w w' := by
  have hp := pw_bound b
  have ho := od_lt b
  have N0 : N4 0 = .agg #[.int .u64 0, .int .u64 0, .int .u64 0, .int .u64 0] := N4_small _ (by decide)
  by_cases h : rg b < INF
  · have hno : ∀ (hs : ∀ W, Calls Tryz.prog 106 #[N4 (od b), .int .i64 (pw b)] W fun e w' => e = .returned (.tuple #[.agg #[.int .u64 0, .int .u64 0, .int .u64 0, .int .u64 0], .bool false]) ∧ Below W.heap.size W w') (_ : whl b = none),
        Calls Tryz.prog 64 #[.int .u64 b] w fun e w' => e = .returned (WEnd b) ∧ Below w.heap.size w w' := fun hs hw => by
      refine (whole_of b hb h 0 false (by decide) (fun W => by rw [N0]; exact hs W) w hT).mono ?_
      rintro e w' ⟨rfl, hbw⟩
      refine ⟨?_, hbw⟩
      unfold WEnd
      rw [hw]
      have e0 : (if sg b = 1 then -((0 : Nat) : Int) else ((0 : Nat) : Int)) = 0 := by split <;> rfl
      rw [e0, ← Iz_zero]
    by_cases h0 : 0 ≤ pw b
    · obtain ⟨k, hk⟩ := Int.eq_ofNat_of_zero_le h0
      by_cases hf : od b * 2 ^ k < 2 ^ 256
      · have hw : whl b = some (od b * 2 ^ k) := by
          unfold whl
          rw [hk, Int.toNat_natCast, if_pos ⟨h, by omega, hf⟩]
        unfold WEnd
        rw [hw]
        exact whole_of b hb h _ true hf (fun W => by rw [hk]; exact shl_ok _ k (by omega) hf W) w hT
      · refine hno (fun W => by rw [hk]; exact shl_no _ k (by omega) hf W) ?_
        unfold whl
        rw [hk, Int.toNat_natCast, if_neg (fun hh => hf hh.2.2)]
    · refine hno (fun W => ?_) ?_
      · exact shl_neg _ _ (by omega) W
      · unfold whl
        rw [if_neg (fun hh => h0 hh.2.1)]
  · have hw : whl b = none := by unfold whl; rw [if_neg (fun hh => h hh.1)]
    unfold WEnd
    rw [hw]
    exact whole_no b (fun W => isfin_no b hb h W) w
end Go.Proofs.YtebfggiodhaahaaGreatDoor
end
section
namespace Go.Proofs.YtebfggiodhaahaaGreatDoor
open Go.RowKit Go.Shelf Go.Sort
attribute [local go_sem ↓] eql_nat neq_nat eql_int5 neq_int5

set_option maxRecDepth 100000 in
theorem class_nan (b : Int) 
    (k1 : ∀ W, Calls Tryz.prog 97 #[.int .u64 b] W fun e w' => e = .returned (.bool true) ∧ w' = W) (w : World) :
    Calls Tryz.prog 59 #[.int .u64 b] w fun e w' => e = .returned (.int .i64 16) ∧ Below w.heap.size w w' := by
  have K1 := Lib.hid k1; clear k1
  go_enter Tryz.func59, Tryz.ntmps59
  go_wp2_with fail
  refine (K1.out _).mono ?_
  rintro e w1 ⟨rfl, hw⟩
  rw [hw]; clear hw w1
  go_wp2
  go_ret
  exact ⟨rfl, Below.refl _ _⟩

set_option maxRecDepth 100000 in
theorem class_inf (b : Int) (hb : (b == 9218868437227405312) = true)
    (k1 : ∀ W, Calls Tryz.prog 97 #[.int .u64 b] W fun e w' => e = .returned (.bool false) ∧ w' = W) (w : World) :
    Calls Tryz.prog 59 #[.int .u64 b] w fun e w' => e = .returned (.int .i64 4) ∧ Below w.heap.size w w' := by
  have K1 := Lib.hid k1; clear k1
  go_enter Tryz.func59, Tryz.ntmps59
  go_wp2_with fail
  refine (K1.out _).mono ?_
  rintro e w1 ⟨rfl, hw⟩
  rw [hw]; clear hw w1
  go_wp2
  go_ret
  exact ⟨rfl, Below.refl _ _⟩

set_option maxRecDepth 100000 in
theorem class_neg (b : Int) (ha : (b == 9218868437227405312) = false) (hb : (b == 18442240474082181120) = true)
    (k1 : ∀ W, Calls Tryz.prog 97 #[.int .u64 b] W fun e w' => e = .returned (.bool false) ∧ w' = W) (w : World) :
    Calls Tryz.prog 59 #[.int .u64 b] w fun e w' => e = .returned (.int .i64 8) ∧ Below w.heap.size w w' := by
  have K1 := Lib.hid k1; clear k1
  go_enter Tryz.func59, Tryz.ntmps59
  go_wp2_with fail
  refine (K1.out _).mono ?_
  rintro e w1 ⟨rfl, hw⟩
  rw [hw]; clear hw w1
  go_wp2
  go_ret
  exact ⟨rfl, Below.refl _ _⟩

set_option maxRecDepth 100000 in
theorem class_whole (b : Int) (ha : (b == 9218868437227405312) = false) (hb : (b == 18442240474082181120) = false) (g : Bool) (x0 x1 x2 x3 : Int)
    (k1 : ∀ W, Calls Tryz.prog 97 #[.int .u64 b] W fun e w' => e = .returned (.bool false) ∧ w' = W)
    (k2 : ∀ W, Tb W → Calls Tryz.prog 64 #[.int .u64 b] W fun e w' => e = .returned (.tuple #[.agg #[.bool g, .int .u64 x0, .int .u64 x1, .int .u64 x2, .int .u64 x3], .bool true]) ∧ Below W.heap.size W w') (w : World) (hT : Tb w) :
    Calls Tryz.prog 59 #[.int .u64 b] w fun e w' => e = .returned (.int .i64 0) ∧ Below w.heap.size w w' := by
  have K1 := Lib.hid k1; clear k1
  have K2 := Lib.hid k2; clear k2
  have HT := Lib.hid hT; clear hT
  go_enter Tryz.func59, Tryz.ntmps59
  go_wp2_with fail
  refine (K1.out _).mono ?_
  rintro e w1 ⟨rfl, hw⟩
  rw [hw]; clear hw w1
  go_wp2_with fail
  refine (K2.out _ (tb_on HT.out (by repeat (first | (with_reducible exact Below.refl _ _) | (with_reducible refine bal ?_ _) | (with_reducible refine Below.drew ?_) | (with_reducible refine bdn ?_ _))))).mono ?_
  rintro e w2 ⟨rfl, hb⟩
  have BW : Below w.heap.size w w2 := btr (by repeat (first | (with_reducible exact Below.refl _ _) | (with_reducible refine bal ?_ _) | (with_reducible refine Below.drew ?_) | (with_reducible refine bdn ?_ _))) hb
  clear hb
  go_wp2
  go_ret
  exact ⟨rfl, by repeat (first | (with_reducible exact BW) | (with_reducible refine bal ?_ _) | (with_reducible refine Below.drew ?_) | (with_reducible refine bdn ?_ _))⟩

set_option maxRecDepth 100000 in
theorem class_fine0 (b : Int) (ha : (b == 9218868437227405312) = false) (hb : (b == 18442240474082181120) = false) (g : Bool) (x0 x1 x2 x3 : Int) (k : Int) (h0 : (k == 0) = true)
    (k1 : ∀ W, Calls Tryz.prog 97 #[.int .u64 b] W fun e w' => e = .returned (.bool false) ∧ w' = W)
    (k2 : ∀ W, Tb W → Calls Tryz.prog 64 #[.int .u64 b] W fun e w' => e = .returned (.tuple #[.agg #[.bool g, .int .u64 x0, .int .u64 x1, .int .u64 x2, .int .u64 x3], .bool false]) ∧ Below W.heap.size W w')
    (k3 : ∀ W, Tb W → Calls Tryz.prog 63 #[.int .u64 b] W fun e w' => e = .returned (.int .i64 k) ∧ w' = W) (w : World) (hT : Tb w) :
    Calls Tryz.prog 59 #[.int .u64 b] w fun e w' => e = .returned (.int .i64 2) ∧ Below w.heap.size w w' := by
  have K1 := Lib.hid k1; clear k1
  have K2 := Lib.hid k2; clear k2
  have K3 := Lib.hid k3; clear k3
  have HT := Lib.hid hT; clear hT
  go_enter Tryz.func59, Tryz.ntmps59
  go_wp2_with fail
  refine (K1.out _).mono ?_
  rintro e w1 ⟨rfl, hw⟩
  rw [hw]; clear hw w1
  go_wp2_with fail
  refine (K2.out _ (tb_on HT.out (by repeat (first | (with_reducible exact Below.refl _ _) | (with_reducible refine bal ?_ _) | (with_reducible refine Below.drew ?_) | (with_reducible refine bdn ?_ _))))).mono ?_
  rintro e w2 ⟨rfl, hb⟩
  have BW : Below w.heap.size w w2 := btr (by repeat (first | (with_reducible exact Below.refl _ _) | (with_reducible refine bal ?_ _) | (with_reducible refine Below.drew ?_) | (with_reducible refine bdn ?_ _))) hb
  clear hb
  go_wp2_with fail
  refine (K3.out _ (tb_on HT.out (by repeat (first | (with_reducible exact BW) | (with_reducible refine bal ?_ _) | (with_reducible refine Below.drew ?_) | (with_reducible refine bdn ?_ _))))).mono ?_
  rintro e w3 ⟨rfl, hw⟩
  rw [hw]; clear hw w3
  go_wp2
  all_goals
    go_ret
    exact ⟨rfl, by repeat (first | (with_reducible exact BW) | (with_reducible refine bal ?_ _) | (with_reducible refine Below.drew ?_) | (with_reducible refine bdn ?_ _))⟩

set_option maxRecDepth 100000 in
theorem class_fine (b : Int) (ha : (b == 9218868437227405312) = false) (hb : (b == 18442240474082181120) = false) (g : Bool) (x0 x1 x2 x3 : Int) (k : Int) (h0 : (k == 0) = false) (h1 : 64 < k)
    (k1 : ∀ W, Calls Tryz.prog 97 #[.int .u64 b] W fun e w' => e = .returned (.bool false) ∧ w' = W)
    (k2 : ∀ W, Tb W → Calls Tryz.prog 64 #[.int .u64 b] W fun e w' => e = .returned (.tuple #[.agg #[.bool g, .int .u64 x0, .int .u64 x1, .int .u64 x2, .int .u64 x3], .bool false]) ∧ Below W.heap.size W w')
    (k3 : ∀ W, Tb W → Calls Tryz.prog 63 #[.int .u64 b] W fun e w' => e = .returned (.int .i64 k) ∧ w' = W) (w : World) (hT : Tb w) :
    Calls Tryz.prog 59 #[.int .u64 b] w fun e w' => e = .returned (.int .i64 2) ∧ Below w.heap.size w w' := by
  have K1 := Lib.hid k1; clear k1
  have K2 := Lib.hid k2; clear k2
  have K3 := Lib.hid k3; clear k3
  have HT := Lib.hid hT; clear hT
  go_enter Tryz.func59, Tryz.ntmps59
  go_wp2_with fail
  refine (K1.out _).mono ?_
  rintro e w1 ⟨rfl, hw⟩
  rw [hw]; clear hw w1
  go_wp2_with fail
  refine (K2.out _ (tb_on HT.out (by repeat (first | (with_reducible exact Below.refl _ _) | (with_reducible refine bal ?_ _) | (with_reducible refine Below.drew ?_) | (with_reducible refine bdn ?_ _))))).mono ?_
  rintro e w2 ⟨rfl, hb⟩
  have BW : Below w.heap.size w w2 := btr (by repeat (first | (with_reducible exact Below.refl _ _) | (with_reducible refine bal ?_ _) | (with_reducible refine Below.drew ?_) | (with_reducible refine bdn ?_ _))) hb
  clear hb
  go_wp2_with fail
  refine (K3.out _ (tb_on HT.out (by repeat (first | (with_reducible exact BW) | (with_reducible refine bal ?_ _) | (with_reducible refine Below.drew ?_) | (with_reducible refine bdn ?_ _))))).mono ?_
  rintro e w3 ⟨rfl, hw⟩
  rw [hw]; clear hw w3
  go_wp2
  all_goals
    go_ret
    exact ⟨rfl, by repeat (first | (with_reducible exact BW) | (with_reducible refine bal ?_ _) | (with_reducible refine Below.drew ?_) | (with_reducible refine bdn ?_ _))⟩

set_option maxRecDepth 100000 in
theorem class_plain (b : Int) (ha : (b == 9218868437227405312) = false) (hb : (b == 18442240474082181120) = false) (g : Bool) (x0 x1 x2 x3 : Int) (k : Int) (h0 : (k == 0) = false) (h1 : k ≤ 64)
    (k1 : ∀ W, Calls Tryz.prog 97 #[.int .u64 b] W fun e w' => e = .returned (.bool false) ∧ w' = W)
    (k2 : ∀ W, Tb W → Calls Tryz.prog 64 #[.int .u64 b] W fun e w' => e = .returned (.tuple #[.agg #[.bool g, .int .u64 x0, .int .u64 x1, .int .u64 x2, .int .u64 x3], .bool false]) ∧ Below W.heap.size W w')
    (k3 : ∀ W, Tb W → Calls Tryz.prog 63 #[.int .u64 b] W fun e w' => e = .returned (.int .i64 k) ∧ w' = W) (w : World) (hT : Tb w) :
    Calls Tryz.prog 59 #[.int .u64 b] w fun e w' => e = .returned (.int .i64 1) ∧ Below w.heap.size w w' := by
  have K1 := Lib.hid k1; clear k1
  have K2 := Lib.hid k2; clear k2
  have K3 := Lib.hid k3; clear k3
  have HT := Lib.hid hT; clear hT
  go_enter Tryz.func59, Tryz.ntmps59
  go_wp2_with fail
  refine (K1.out _).mono ?_
  rintro e w1 ⟨rfl, hw⟩
  rw [hw]; clear hw w1
  go_wp2_with fail
  refine (K2.out _ (tb_on HT.out (by repeat (first | (with_reducible exact Below.refl _ _) | (with_reducible refine bal ?_ _) | (with_reducible refine Below.drew ?_) | (with_reducible refine bdn ?_ _))))).mono ?_
  rintro e w2 ⟨rfl, hb⟩
  have BW : Below w.heap.size w w2 := btr (by repeat (first | (with_reducible exact Below.refl _ _) | (with_reducible refine bal ?_ _) | (with_reducible refine Below.drew ?_) | (with_reducible refine bdn ?_ _))) hb
  clear hb
  go_wp2_with fail
  refine (K3.out _ (tb_on HT.out (by repeat (first | (with_reducible exact BW) | (with_reducible refine bal ?_ _) | (with_reducible refine Below.drew ?_) | (with_reducible refine bdn ?_ _))))).mono ?_
  rintro e w3 ⟨rfl, hw⟩
  rw [hw]; clear hw w3
  go_wp2
  all_goals
    go_ret
    exact ⟨rfl, by repeat (first | (with_reducible exact BW) | (with_reducible refine bal ?_ _) | (with_reducible refine Below.drew ?_) | (with_reducible refine bdn ?_ _))⟩

theorem class_any (b : Nat) (hb : b < 18446744073709551616) (w : World) (hT : Tb w) :
    Calls Tryz.prog 59 #[.int .u64 b] w fun e w' => e = .returned (.int .i64 (cls b : Nat)) ∧ Below w.heap.size w w' := by
  have h5 : INF = 9218868437227405312 := rfl
  have hw := word_of b
  have h2 : sg b = 0 ∨ sg b = 1 := by unfold sg; omega
  unfold cls
  by_cases h : INF < rg b
  · rw [if_pos h]
    exact class_nan b (fun W => isnan_yes b hb h W) w
  rw [if_neg h]
  have k1 := fun W => isnan_no b hb h W
  by_cases hi : rg b = INF
  · rw [if_pos hi]
    rcases h2 with h2 | h2
    · rw [if_pos h2]
      exact class_inf b (by rw [beq_iff_eq]; omega) k1 w
    · rw [if_neg (by omega)]
      exact class_neg b (by rw [beq_eq_false_iff_ne]; omega) (by rw [beq_iff_eq]; omega) k1 w
  rw [if_neg hi]
  have ha : ((b : Int) == 9218868437227405312) = false := by rw [beq_eq_false_iff_ne]; intro h3; apply hi; unfold rg; omega
  have hc : ((b : Int) == 18442240474082181120) = false := by rw [beq_eq_false_iff_ne]; intro h3; apply hi; unfold rg; omega
  have hwh := fun W hW => whole_any b hb W hW
  have hbe := fun W hW => behind_any b hb W hW
  unfold WEnd at hwh
  cases hq : whl b with
  | some n =>
    simp only [hq] at hwh
    rw [Option.isSome_some, if_pos rfl]
    exact class_whole b ha hc _ _ _ _ _ k1 hwh w hT
  | none =>
    simp only [hq] at hwh
    rw [Option.isSome_none, if_neg (by decide)]
    by_cases z : beh b = 0
    · rw [if_pos (.inl z)]
      exact class_fine0 b ha hc _ _ _ _ _ _ (by rw [beq_iff_eq]; omega) k1 hwh hbe w hT
    · by_cases z2 : 64 < beh b
      · rw [if_pos (.inr z2)]
        exact class_fine b ha hc _ _ _ _ _ _ (by rw [beq_eq_false_iff_ne]; omega) (show (64 : Int) < ((beh b : Nat) : Int) by omega) k1 hwh hbe w hT
      · rw [if_neg (fun hh => hh.elim z z2)]
        exact class_plain b ha hc _ _ _ _ _ _ (by rw [beq_eq_false_iff_ne]; omega) (show ((beh b : Nat) : Int) ≤ 64 by omega) k1 hwh hbe w hT

theorem may_zero (b : Int) 
    (k1 : ∀ W, Tb W → Calls Tryz.prog 59 #[.int .u64 b] W fun e w' => e = .returned (.int .i64 0) ∧ Below W.heap.size W w') (w : World) (hT : Tb w) :
    Calls Tryz.prog 51 #[.int .u64 b] w fun e w' => e = .returned (.bool false) ∧ Below w.heap.size w w' := by
  have K1 := Lib.hid k1; clear k1
  have HT := Lib.hid hT; clear hT
  go_enter Tryz.func51, Tryz.ntmps51
  go_wp2_with fail
  refine (K1.out _ HT.out).mono ?_
  rintro e w2 ⟨rfl, hb⟩
  have BW : Below w.heap.size w w2 := btr (by repeat (first | (with_reducible exact Below.refl _ _) | (with_reducible refine bal ?_ _) | (with_reducible refine Below.drew ?_) | (with_reducible refine bdn ?_ _))) hb
  clear hb
  go_wp2
  go_ret
  exact ⟨rfl, by repeat (first | (with_reducible exact BW) | (with_reducible refine bal ?_ _) | (with_reducible refine Below.drew ?_) | (with_reducible refine bdn ?_ _))⟩

theorem may_some (b : Int) (k d : Int) (h1 : (k != 0) = true)
    (k1 : ∀ W, Tb W → Calls Tryz.prog 59 #[.int .u64 b] W fun e w' => e = .returned (.int .i64 k) ∧ Below W.heap.size W w')
    (k2 : ∀ W, Calls Tryz.prog 85 #[.int .u64 b] W fun e w' => e = .returned (.int .u64 d) ∧ w' = W) (w : World) (hT : Tb w) :
    Calls Tryz.prog 51 #[.int .u64 b] w fun e w' => e = .returned (.bool (d == b)) ∧ Below w.heap.size w w' := by
  have K1 := Lib.hid k1; clear k1
  have K2 := Lib.hid k2; clear k2
  have HT := Lib.hid hT; clear hT
  go_enter Tryz.func51, Tryz.ntmps51
  go_wp2_with fail
  refine (K1.out _ HT.out).mono ?_
  rintro e w2 ⟨rfl, hb⟩
  have BW : Below w.heap.size w w2 := btr (by repeat (first | (with_reducible exact Below.refl _ _) | (with_reducible refine bal ?_ _) | (with_reducible refine Below.drew ?_) | (with_reducible refine bdn ?_ _))) hb
  clear hb
  go_wp2_with fail
  refine (K2.out _).mono ?_
  rintro e w3 ⟨rfl, hw⟩
  rw [hw]; clear hw w3
  go_wp2
  go_ret
  exact ⟨rfl, by repeat (first | (with_reducible exact BW) | (with_reducible refine bal ?_ _) | (with_reducible refine Below.drew ?_) | (with_reducible refine bdn ?_ _))⟩

/-- What May answers. -/
def mayF (b : Nat) : Bool := cls b != 0 && can b == b
theorem fmay_any (b : Nat) (hb : b < 18446744073709551616) (w : World) (hT : Tb w) :
    Calls Tryz.prog 51 #[.int .u64 b] w fun e w' => e = .returned (.bool (mayF b)) ∧ Below w.heap.size w w' := by
  have hc := fun W hW => class_any b hb W hW
  have hd := fun W => canon_any b hb W
  unfold mayF
  by_cases h : cls b = 0
  · rw [h] at hc
    rw [h]
    exact may_zero b hc w hT
  · have e : (cls b != 0 && can b == b) = (((can b : Nat) : Int) == (b : Int)) := by
      rw [Bool.eq_iff_iff, Bool.and_eq_true, bne_iff_ne, beq_iff_eq, beq_iff_eq]
      omega
    rw [e]
    exact may_some b _ _ (by rw [bne_iff_ne]; omega) hc hd w hT
end Go.Proofs.YtebfggiodhaahaaGreatDoor
end
