/-
  FltNear FltMath FltMath2 FltA FltB FltC FltD FltE FltF, one behind the other: a claim holds at most 60 files.
-/
import Derived.RowKit
import Derived.Shelf.Spec.TrailingZeros
import Derived.Test.YtfaaagmjmljhiaaGreatDoorGL
import Derived.Laws.BitsAllLaws
import Derived.Laws.FloatArith
import Derived.Laws.Cover2
import Derived.Test.YtfaaagmjmljhiaaGreatDoorGE
section
namespace Go.Proofs.YtfaaagmjmljhiaaGreatDoor
open Ieee

theorem lg_unique {n k : Nat} (h0 : 2 ^ k ≤ n) (h1 : n < 2 ^ (k + 1)) : n.log2 = k := by
  have hn : n ≠ 0 := by have := Nat.two_pow_pos k; omega
  have a := Nat.log2_self_le hn
  have b := Nat.lt_log2_self (n := n)
  apply Nat.le_antisymm
  · apply Nat.le_of_lt_succ
    exact (Nat.pow_lt_pow_iff_right (by decide : 1 < 2)).1 (Nat.lt_of_le_of_lt a h1)
  · apply Nat.le_of_lt_succ
    exact (Nat.pow_lt_pow_iff_right (by decide : 1 < 2)).1 (Nat.lt_of_le_of_lt h0 b)
theorem lg_mul (m d : Nat) (h : m ≠ 0) : (m * 2 ^ d).log2 = m.log2 + d := by
  have a := Nat.log2_self_le h
  have b := Nat.lt_log2_self (n := m)
  apply lg_unique
  · rw [Nat.pow_add]; exact Nat.mul_le_mul_right _ a
  · rw [show m.log2 + d + 1 = (m.log2 + 1) + d from by omega, Nat.pow_add]
    exact Nat.mul_lt_mul_of_pos_right b (Nat.two_pow_pos d)

theorem cut_zero (neg : Bool) (n : Nat) : Toward.even.cut neg n 0 = n := by
  simp [Toward.cut, Nat.mod_one]
theorem cut_exact (neg : Bool) (m d : Nat) (hm : m ≠ 0) : Toward.even.cut neg (m * 2 ^ d) d = m := by
  have hp := Nat.two_pow_pos d
  have h : min d ((m * 2 ^ d).log2 + 2) = d := by rw [lg_mul m d hm]; omega
  unfold Toward.cut
  simp only [h, Nat.one_shiftLeft]
  rw [Nat.mul_mod_left, Nat.mul_div_cancel _ hp]
  have e1 : decide (2 ^ d < 2 * 0) = false := by simp
  have e2 : (2 ^ d == 2 * 0) = false := by simp
  rw [e1, e2]
  rfl
theorem cut_scale (neg : Bool) (n d k : Nat) (hn : n ≠ 0) : Toward.even.cut neg (n * 2 ^ k) (d + k) = Toward.even.cut neg n d := by
  have hp := Nat.two_pow_pos k
  have h : min (d + k) ((n * 2 ^ k).log2 + 2) = min d (n.log2 + 2) + k := by rw [lg_mul n k hn]; omega
  unfold Toward.cut
  simp only [h, Nat.one_shiftLeft]
  generalize min d (n.log2 + 2) = g
  rw [Nat.pow_add, Nat.mul_div_mul_right _ _ hp, Nat.mul_mod_mul_right, ← Nat.mul_assoc]
  have e1 : decide (2 ^ g * 2 ^ k < 2 * (n % 2 ^ g) * 2 ^ k) = decide (2 ^ g < 2 * (n % 2 ^ g)) := by
    rw [decide_eq_decide]; exact Nat.mul_lt_mul_right hp
  have e2 : (2 ^ g * 2 ^ k == 2 * (n % 2 ^ g) * 2 ^ k) = (2 ^ g == 2 * (n % 2 ^ g)) := by
    rw [Bool.eq_iff_iff, beq_iff_eq, beq_iff_eq]; exact ⟨fun h => Nat.eq_of_mul_eq_mul_right hp h, fun h => congrArg (fun z => z * 2 ^ k) h⟩
  rw [e1, e2]

theorem near_zero (f : Format) (neg : Bool) (p : Int) : f.nearest neg 0 p = f.word neg 0 := by simp [Format.nearest]
theorem near_scale (f : Format) (neg : Bool) (m : Nat) (p : Int) (k : Nat) : f.nearest neg (m * 2 ^ k) (p - k) = f.nearest neg m p := by
  by_cases hm : m = 0
  · subst hm; rw [Nat.zero_mul, near_zero, near_zero]
  have hk := Nat.two_pow_pos k
  have hmk : m * 2 ^ k ≠ 0 := Nat.mul_ne_zero hm (by omega)
  have hl : (p - k + ((m * 2 ^ k).log2 : Nat) - f.fractionBits : Int) = p + (m.log2 : Nat) - f.fractionBits := by rw [lg_mul m k hm]; omega
  unfold Format.nearest
  rw [if_neg hm, if_neg hmk]
  simp only [hl]
  generalize max (p + (m.log2 : Nat) - f.fractionBits : Int) f.leastPlace = L
  have key : Toward.even.cut neg ((m * 2 ^ k) <<< (p - k - L).toNat) (L - (p - k)).toNat = Toward.even.cut neg (m <<< (p - L).toNat) (L - p).toNat := by
    by_cases h1 : L ≤ p - k
    · have a1 : (L - (p - k)).toNat = 0 := by omega
      have a2 : (L - p).toNat = 0 := by omega
      have a3 : (p - L).toNat = k + (p - k - L).toNat := by omega
      rw [a1, a2, cut_zero, cut_zero, a3, Nat.shiftLeft_eq, Nat.shiftLeft_eq, Nat.pow_add, Nat.mul_assoc]
    · by_cases h2 : L ≤ p
      · have a1 : (p - k - L).toNat = 0 := by omega
        have a2 : (L - p).toNat = 0 := by omega
        obtain ⟨j, hj⟩ : ∃ j : Nat, (L - (p - k)).toNat = j := ⟨_, rfl⟩
        have a3 : k = (p - L).toNat + j := by omega
        rw [a1, a2, hj, cut_zero, Nat.shiftLeft_zero, Nat.shiftLeft_eq]
        generalize (p - L).toNat = i at *
        subst a3
        rw [Nat.pow_add, ← Nat.mul_assoc]
        exact cut_exact neg _ j (Nat.mul_ne_zero hm (by have := Nat.two_pow_pos i; omega))
      · have a1 : (p - k - L).toNat = 0 := by omega
        have a2 : (p - L).toNat = 0 := by omega
        have a3 : (L - (p - k)).toNat = (L - p).toNat + k := by omega
        rw [a1, a2, a3, Nat.shiftLeft_zero, Nat.shiftLeft_zero]
        exact cut_scale neg m _ k hm
  rw [key]

/-- The size and the place of a rung that is a number's. -/
def mg (f : Format) (r : Nat) : Nat := if r < f.binade then r else f.binade + r % f.binade
def pl (f : Format) (r : Nat) : Int := if r < f.binade then f.leastPlace else f.leastPlace + (r / f.binade - 1 : Nat)
theorem read_word (f : Format) (neg : Bool) (r : Nat) (h : r < f.infRung) (hs : r < f.signWeight) : f.read (f.word neg r) = .number neg (mg f r) (pl f r) := by
  have e1 : f.word neg r % f.signWeight = r := by
    unfold Format.word
    cases neg
    · simp [Nat.mod_eq_of_lt hs]
    · simp [Nat.mod_eq_of_lt hs]
  have e2 : (f.word neg r / f.signWeight % 2 == 1) = neg := by
    have hp : 0 < f.signWeight := by omega
    unfold Format.word
    cases neg
    · simp [Nat.div_eq_of_lt hs]
    · simp [Nat.add_div_left _ hp, Nat.div_eq_of_lt hs]
  unfold Format.read mg pl
  simp only [e1, e2, h, if_true]
  split <;> rfl
theorem near_rung (f : Format) (neg : Bool) (r : Nat) (h : r < f.infRung) : f.nearest neg (mg f r) (pl f r) = f.word neg r := by
  have hb : 0 < f.binade := Nat.two_pow_pos _
  unfold mg pl
  split
  · rename_i hr
    by_cases h0 : r = 0
    · subst h0; exact near_zero f neg _
    · have hl : r.log2 < f.fractionBits := (Nat.log2_lt h0).2 hr
      have e : max (f.leastPlace + (r.log2 : Nat) - f.fractionBits : Int) f.leastPlace = f.leastPlace := by omega
      unfold Format.nearest
      rw [if_neg h0]
      simp only [e, Int.sub_self, Int.toNat_zero, Nat.shiftLeft_zero, cut_zero, Nat.zero_mul, Nat.zero_add]
      rw [Nat.min_eq_left (by omega)]
  · rename_i hr
    have hm : r % f.binade < f.binade := Nat.mod_lt _ hb
    have h0 : f.binade + r % f.binade ≠ 0 := by omega
    have hl : (f.binade + r % f.binade).log2 = f.fractionBits := lg_unique (by show f.binade ≤ _; omega) (by rw [Nat.pow_succ]; show _ < f.binade * 2; omega)
    have hq : 1 ≤ r / f.binade := (Nat.one_le_div_iff hb).2 (by omega)
    unfold Format.nearest
    rw [if_neg h0]
    have e : max (f.leastPlace + (r / f.binade - 1 : Nat) + ((f.binade + r % f.binade).log2 : Nat) - f.fractionBits : Int) f.leastPlace = f.leastPlace + (r / f.binade - 1 : Nat) := by rw [hl]; omega
    simp only [e, Int.sub_self, Int.toNat_zero, Nat.shiftLeft_zero, cut_zero]
    have e2 : (f.leastPlace + ((r / f.binade - 1 : Nat) : Int) - f.leastPlace).toNat = r / f.binade - 1 := by omega
    rw [e2]
    have e3 : (r / f.binade - 1) * f.binade + (f.binade + r % f.binade) = r := by
      have := Nat.div_add_mod r f.binade
      obtain ⟨q, hq2⟩ : ∃ q, r / f.binade = q + 1 := ⟨r / f.binade - 1, by omega⟩
      rw [hq2] at this ⊢
      rw [Nat.mul_succ, Nat.mul_comm] at this
      rw [Nat.add_sub_cancel]
      omega
    rw [e3, Nat.min_eq_left (by omega)]
/-- What a rung stands for, by a lesser power: the nearest word is that rung's. -/
theorem near_of (f : Format) (neg : Bool) (r m : Nat) (p : Int) (k : Nat) (h : r < f.infRung) (hm : m = mg f r * 2 ^ k) (hp : p = pl f r - k) : f.nearest neg m p = f.word neg r := by
  rw [hm, hp, near_scale, near_rung f neg r h]
/-- .. by a greater one. -/
theorem near_of' (f : Format) (neg : Bool) (r m : Nat) (p : Int) (k : Nat) (h : r < f.infRung) (hm : m * 2 ^ k = mg f r) (hp : p - k = pl f r) : f.nearest neg m p = f.word neg r := by
  rw [← near_scale f neg m p k, hm, hp, near_rung f neg r h]
end Go.Proofs.YtfaaagmjmljhiaaGreatDoor
end
section
namespace Go.Proofs.YtfaaagmjmljhiaaGreatDoor
open Ieee

abbrev INF : Nat := 9218868437227405312
abbrev NANW : Nat := 9221120237041090560
/-- A word without its sign; its sign. -/
def rg (b : Nat) : Nat := b % 9223372036854775808
def sg (b : Nat) : Nat := b / 9223372036854775808
theorem dbl_binade : double.binade = 4503599627370496 := by decide
theorem dbl_inf : double.infRung = 9218868437227405312 := by decide
theorem dbl_sign : double.signWeight = 9223372036854775808 := by decide
theorem dbl_least : double.leastPlace = -1074 := by decide
theorem sgl_binade : single.binade = 8388608 := by decide
theorem sgl_inf : single.infRung = 2139095040 := by decide
theorem sgl_sign : single.signWeight = 2147483648 := by decide
theorem sgl_least : single.leastPlace = -149 := by decide
theorem dbl_word (neg : Bool) (r : Nat) : double.word neg r = neg.toNat * 9223372036854775808 + r := by
  cases neg <;> simp [Format.word, dbl_sign]
theorem sgl_word (neg : Bool) (r : Nat) : single.word neg r = neg.toNat * 2147483648 + r := by
  cases neg <;> simp [Format.word, sgl_sign]

/-- Digits by a power of two, as a rung of 64 bits; of 32. -/
def nr (d : Nat) (p : Int) : Nat := (p + (d.log2 : Nat) + 1022).toNat * 4503599627370496 + d * 2 ^ (52 - d.log2)
def ns (d : Nat) (p : Int) : Nat := (p + (d.log2 : Nat) + 126).toNat * 8388608 + d * 2 ^ (23 - d.log2)
theorem top_bounds {d n : Nat} (h : d ≠ 0) (hl : d.log2 ≤ n) : 2 ^ n ≤ d * 2 ^ (n - d.log2) ∧ d * 2 ^ (n - d.log2) < 2 ^ (n + 1) := by
  have a := Nat.log2_self_le h
  have b := Nat.lt_log2_self (n := d)
  constructor
  · have := Nat.mul_le_mul_right (2 ^ (n - d.log2)) a
    rw [← Nat.pow_add, show d.log2 + (n - d.log2) = n from by omega] at this
    exact this
  · have := Nat.mul_lt_mul_of_pos_right b (Nat.two_pow_pos (n - d.log2))
    rw [← Nat.pow_add, show d.log2 + 1 + (n - d.log2) = n + 1 from by omega] at this
    exact this
theorem nr_spec {d : Nat} {p : Int} (h : d ≠ 0) (hl : d.log2 ≤ 52) (h0 : -1022 ≤ p + (d.log2 : Nat)) (h1 : p + (d.log2 : Nat) ≤ 1023) :
    nr d p < INF ∧ mg double (nr d p) = d * 2 ^ (52 - d.log2) ∧ pl double (nr d p) = p - (52 - d.log2 : Nat) ∧ 4503599627370496 ≤ nr d p ∧ nr d p / 4503599627370496 = (p + (d.log2 : Nat) + 1023).toNat := by
  have hb := top_bounds h hl
  unfold mg pl nr
  rw [dbl_binade, dbl_least]
  generalize d * 2 ^ (52 - d.log2) = M at *
  rw [show (2 : Nat) ^ 52 = 4503599627370496 from by decide, show (2 : Nat) ^ (52 + 1) = 9007199254740992 from by decide] at hb
  obtain ⟨j, hj⟩ : ∃ j : Nat, (p + (d.log2 : Nat) + 1022).toNat = j := ⟨_, rfl⟩
  rw [hj]
  have e1 : ¬ (j * 4503599627370496 + M < 4503599627370496) := by omega
  have e2 : (j * 4503599627370496 + M) / 4503599627370496 = j + 1 := by omega
  rw [if_neg e1, if_neg e1, e2]
  refine ⟨by show _ < 9218868437227405312; omega, by omega, by omega, by omega, by omega⟩
theorem ns_spec {d : Nat} {p : Int} (h : d ≠ 0) (hl : d.log2 ≤ 23) (h0 : -126 ≤ p + (d.log2 : Nat)) (h1 : p + (d.log2 : Nat) ≤ 127) :
    ns d p < 2139095040 ∧ mg single (ns d p) = d * 2 ^ (23 - d.log2) ∧ pl single (ns d p) = p - (23 - d.log2 : Nat) ∧ ns d p ≠ 0 := by
  have hb := top_bounds h hl
  unfold mg pl ns
  rw [sgl_binade, sgl_least]
  generalize d * 2 ^ (23 - d.log2) = M at *
  rw [show (2 : Nat) ^ 23 = 8388608 from by decide, show (2 : Nat) ^ (23 + 1) = 16777216 from by decide] at hb
  obtain ⟨j, hj⟩ : ∃ j : Nat, (p + (d.log2 : Nat) + 126).toNat = j := ⟨_, rfl⟩
  rw [hj]
  have e1 : ¬ (j * 8388608 + M < 8388608) := by omega
  have e2 : (j * 8388608 + M) / 8388608 = j + 1 := by omega
  rw [if_neg e1, if_neg e1, e2]
  refine ⟨by omega, by omega, by omega, by omega⟩
theorem near_dbl (neg : Bool) {d : Nat} {p : Int} (h : d ≠ 0) (hl : d.log2 ≤ 52) (h0 : -1022 ≤ p + (d.log2 : Nat)) (h1 : p + (d.log2 : Nat) ≤ 1023) :
    double.nearest neg d p = neg.toNat * 9223372036854775808 + nr d p := by
  obtain ⟨a, b, c, _⟩ := nr_spec h hl h0 h1
  rw [near_of' double neg (nr d p) d p (52 - d.log2) (by rw [dbl_inf]; exact a) b.symm c.symm, dbl_word]
/-- The same number in a format: of a rung of 64 bits that is digits by a power of two, too. -/
theorem near_nr (f : Format) (neg : Bool) {d : Nat} {p : Int} (h : d ≠ 0) (hl : d.log2 ≤ 52) (h0 : -1022 ≤ p + (d.log2 : Nat)) (h1 : p + (d.log2 : Nat) ≤ 1023) :
    f.nearest neg (mg double (nr d p)) (pl double (nr d p)) = f.nearest neg d p := by
  obtain ⟨_, b, c, _⟩ := nr_spec h hl h0 h1
  rw [b, c, near_scale]
theorem nr_scale {d : Nat} {p : Int} (k : Nat) (h : d ≠ 0) (hl : d.log2 + k ≤ 52) : nr (d * 2 ^ k) (p - k) = nr d p := by
  unfold nr
  rw [lg_mul d k h]
  have e1 : (p - (k : Int) + ((d.log2 + k : Nat) : Int) + 1022) = p + (d.log2 : Nat) + 1022 := by omega
  have e2 : d * 2 ^ k * 2 ^ (52 - (d.log2 + k)) = d * 2 ^ (52 - d.log2) := by
    rw [Nat.mul_assoc, ← Nat.pow_add, show k + (52 - (d.log2 + k)) = 52 - d.log2 from by omega]
  rw [e1, e2]

/-- A half in 64 bits. -/
def hlf (h : Nat) : Nat :=
  if 31744 < h % 32768 then NANW else
  h / 32768 * 9223372036854775808 + (if h % 32768 = 31744 then INF else if h % 32768 < 1024 then (if h % 32768 = 0 then 0 else nr (h % 32768) (-24)) else h % 32768 * 4398046511104 + 4539628424389459968)
/-- A single in 64 bits. -/
def sng (s : Nat) : Nat :=
  if 2139095040 < s % 2147483648 then NANW else
  s / 2147483648 * 9223372036854775808 + (if s % 2147483648 = 2139095040 then INF else if s % 2147483648 = 0 then 0 else nr (mg single (s % 2147483648)) (pl single (s % 2147483648)))
/-- The nearest single's word. -/
def tosr (b : Nat) : Nat := sg b * 2147483648 + single.nearest false (mg double (rg b)) (pl double (rg b))
def tos (b : Nat) : Nat × Bool :=
  if INF < rg b then (2143289344, true) else if rg b = INF then (sg b * 2147483648 + 2139095040, true) else if sng (tosr b) = b then (tosr b, true) else (0, false)
/-- What is left of a float's digits where a half has no room. -/
def cuth (b : Nat) : Nat :=
  b / 9223372036854775808 * 32768 + (if 1039 ≤ b / 4503599627370496 % 2048 then 31744 else if 1008 < b / 4503599627370496 % 2048 then (b / 4503599627370496 % 2048 - 1008) * 1024 + b % 4503599627370496 / 4398046511104 else (4503599627370496 + b % 4503599627370496) / 2 ^ (1051 - b / 4503599627370496 % 2048))
def toh (b : Nat) : Nat × Bool := if INF < rg b then (32256, true) else if hlf (cuth b) = b then (cuth b, true) else (0, false)

theorem hlf_norm {r : Nat} (h0 : 1024 ≤ r) (h1 : r < 31744) : nr (1024 + r % 1024) ((r / 1024 : Nat) - 25 : Int) = r * 4398046511104 + 4539628424389459968 := by
  have hl : (1024 + r % 1024).log2 = 10 := lg_unique (by omega) (by omega)
  unfold nr
  rw [hl]
  have e : (((r / 1024 : Nat) : Int) - 25 + ((10 : Nat) : Int) + 1022).toNat = r / 1024 + 1007 := by omega
  rw [e]
  omega
theorem lg_small {d n : Nat} (h : d ≠ 0) (hd : d < 2 ^ n) : d.log2 < n := (Nat.log2_lt h).2 hd
theorem single_parts {r : Nat} (h0 : r ≠ 0) (h1 : r < 2139095040) : mg single r ≠ 0 ∧ (mg single r).log2 ≤ 23 ∧ -149 ≤ pl single r + ((mg single r).log2 : Nat) ∧ pl single r + ((mg single r).log2 : Nat) ≤ 127 := by
  unfold mg pl
  rw [sgl_binade, sgl_least]
  by_cases h : r < 8388608
  · rw [if_pos h, if_pos h]
    have := lg_small (n := 23) h0 h
    exact ⟨h0, by omega, by omega, by omega⟩
  · rw [if_neg h, if_neg h]
    have hl : (8388608 + r % 8388608).log2 = 23 := lg_unique (by omega) (by omega)
    rw [hl]
    exact ⟨by omega, by omega, by omega, by omega⟩
theorem word_parts {n r : Nat} (hr : r < 9223372036854775808) : rg (n * 9223372036854775808 + r) = r ∧ sg (n * 9223372036854775808 + r) = n := by
  unfold rg sg; omega
theorem sgn_or {n : Nat} (h : n < 2) : n = (n == 1).toNat := by
  have : n = 0 ∨ n = 1 := by omega
  rcases this with rfl | rfl <;> rfl
theorem near_sign (f : Format) (neg : Bool) (m : Nat) (p : Int) : f.nearest neg m p = neg.toNat * f.signWeight + f.nearest false m p := by
  unfold Format.nearest Format.word Toward.cut
  cases neg <;> by_cases h : m = 0 <;> simp [h]
/-- A single comes back. -/
theorem sng_back {s : Nat} (_hs : s < 4294967296) (hn : s % 2147483648 ≤ 2139095040) : tos (sng s) = (s, true) := by
  have e0 : ¬ (2139095040 < s % 2147483648) := by omega
  by_cases hi : s % 2147483648 = 2139095040
  · have e : sng s = s / 2147483648 * 9223372036854775808 + INF := by unfold sng; rw [if_neg e0, if_pos hi]
    obtain ⟨p1, p2⟩ := word_parts (n := s / 2147483648) (r := INF) (by decide)
    rw [e]
    unfold tos
    rw [p1, p2, if_neg (by omega), if_pos rfl]
    have : s / 2147483648 * 2147483648 + 2139095040 = s := by omega
    rw [this]
  · obtain ⟨ρ, hρ, e, hback⟩ : ∃ ρ, ρ < INF ∧ sng s = s / 2147483648 * 9223372036854775808 + ρ ∧ single.nearest false (mg double ρ) (pl double ρ) = s % 2147483648 := by
      by_cases hz : s % 2147483648 = 0
      · refine ⟨0, by decide, by unfold sng; rw [if_neg e0, if_neg hi, if_pos hz], ?_⟩
        rw [show mg double 0 = 0 from by decide, near_zero, hz]; rfl
      · obtain ⟨a, b, c, d⟩ := single_parts hz (by omega)
        refine ⟨nr (mg single (s % 2147483648)) (pl single (s % 2147483648)), (nr_spec a (by omega) (by omega) (by omega)).1, by unfold sng; rw [if_neg e0, if_neg hi, if_neg hz], ?_⟩
        rw [near_nr single false a (by omega) (by omega) (by omega), near_rung single false _ (by rw [sgl_inf]; omega)]
        rfl
    have hρ' : ρ < 9223372036854775808 := Nat.lt_trans hρ (by decide)
    obtain ⟨p1, p2⟩ := word_parts (n := s / 2147483648) hρ'
    have ht : tosr (sng s) = s := by
      unfold tosr
      rw [e, p1, p2, hback]; omega
    unfold tos
    rw [ht, if_pos rfl, e, p1, if_neg (by omega), if_neg (by omega)]
theorem tos_nan {b : Nat} (h : INF < rg b) : tos b = (2143289344, true) := by unfold tos; rw [if_pos h]
theorem toh_nan {b : Nat} (h : INF < rg b) : toh b = (32256, true) := by unfold toh; rw [if_pos h]
theorem sng_nan {s : Nat} (h : 2139095040 < s % 2147483648) : sng s = NANW := by unfold sng; rw [if_pos h]
theorem hlf_nan {h : Nat} (k : 31744 < h % 32768) : hlf h = NANW := by unfold hlf; rw [if_pos k]
theorem nan_rg : INF < rg NANW := by decide
/-- A half comes back. -/
theorem hlf_cut {h : Nat} (_hh : h < 65536) (hn : h % 32768 ≤ 31744) : cuth (hlf h) = h ∧ rg (hlf h) ≤ INF := by
  have e0 : ¬ (31744 < h % 32768) := by omega
  unfold hlf
  rw [if_neg e0]
  by_cases hi : h % 32768 = 31744
  · rw [if_pos hi, show INF = 9218868437227405312 from rfl]
    unfold cuth rg
    have e1 : (h / 32768 * 9223372036854775808 + 9218868437227405312) / 4503599627370496 % 2048 = 2047 := by omega
    rw [e1, if_pos (by decide)]
    omega
  · rw [if_neg hi]
    by_cases hs : h % 32768 < 1024
    · rw [if_pos hs]
      by_cases hz : h % 32768 = 0
      · rw [if_pos hz]
        unfold cuth rg
        have e1 : (h / 32768 * 9223372036854775808 + 0) / 4503599627370496 % 2048 = 0 := by omega
        have e2 : (h / 32768 * 9223372036854775808 + 0) % 4503599627370496 = 0 := by omega
        rw [e1, e2, if_neg (by omega), if_neg (by omega)]
        have e3 : (4503599627370496 + 0) / 2 ^ (1051 - 0) = 0 := by decide +kernel
        rw [e3]; omega
      · rw [if_neg hz]
        have hl : (h % 32768).log2 < 10 := lg_small hz hs
        obtain ⟨a, b, c, d, e⟩ := nr_spec (d := h % 32768) (p := -24) hz (by omega) (by omega) (by omega)
        have hb := top_bounds (n := 52) hz (by omega)
        generalize hd : h % 32768 = D at *
        have en : nr D (-24) = (D.log2 + 998) * 4503599627370496 + D * 2 ^ (52 - D.log2) := by
          unfold nr
          rw [show ((-24 : Int) + ((D.log2 : Nat) : Int) + 1022).toNat = D.log2 + 998 from by omega]
        rw [show (2 : Nat) ^ 52 = 4503599627370496 from by decide, show (2 : Nat) ^ (52 + 1) = 9007199254740992 from by decide] at hb
        unfold cuth rg
        rw [en]
        generalize hl2 : D.log2 = l at *
        generalize hM : D * 2 ^ (52 - l) = M at *
        have e1 : (h / 32768 * 9223372036854775808 + ((l + 998) * 4503599627370496 + M)) / 4503599627370496 % 2048 = l + 999 := by omega
        have e2 : 4503599627370496 + (h / 32768 * 9223372036854775808 + ((l + 998) * 4503599627370496 + M)) % 4503599627370496 = M := by omega
        have e3 : (h / 32768 * 9223372036854775808 + ((l + 998) * 4503599627370496 + M)) / 9223372036854775808 = h / 32768 := by omega
        rw [e1, e2, e3, if_neg (by omega), if_neg (by omega), show 1051 - (l + 999) = 52 - l from by omega, ← hM, Nat.mul_div_cancel _ (Nat.two_pow_pos _), hM]
        constructor
        · omega
        · show _ ≤ 9218868437227405312; omega
    · rw [if_neg hs]
      have e1 : (h / 32768 * 9223372036854775808 + (h % 32768 * 4398046511104 + 4539628424389459968)) / 4503599627370496 % 2048 = h % 32768 / 1024 + 1008 := by omega
      have e2 : (h / 32768 * 9223372036854775808 + (h % 32768 * 4398046511104 + 4539628424389459968)) % 4503599627370496 = h % 1024 * 4398046511104 := by omega
      unfold cuth rg
      rw [e1, e2, if_neg (by omega), if_pos (by omega)]
      constructor
      · omega
      · show _ ≤ 9218868437227405312; omega
theorem hlf_back {h : Nat} (hh : h < 65536) (hn : h % 32768 ≤ 31744) : toh (hlf h) = (h, true) := by
  obtain ⟨a, b⟩ := hlf_cut hh hn
  unfold toh
  rw [if_neg (by omega), a, if_pos rfl]
/-- What a half has a single has. -/
theorem hlf_single {h : Nat} (hh : h < 65536) : ∃ s, s < 4294967296 ∧ sng s = hlf h := by
  by_cases hn : 31744 < h % 32768
  · exact ⟨2143289344, by decide, by rw [hlf_nan hn, sng_nan (by decide)]⟩
  unfold hlf
  rw [if_neg hn]
  by_cases hi : h % 32768 = 31744
  · rw [if_pos hi]
    refine ⟨h / 32768 * 2147483648 + 2139095040, by omega, ?_⟩
    have q1 : (h / 32768 * 2147483648 + 2139095040) % 2147483648 = 2139095040 := by omega
    have q2 : (h / 32768 * 2147483648 + 2139095040) / 2147483648 = h / 32768 := by omega
    unfold sng
    rw [q1, q2, if_neg (by omega), if_pos rfl]
  · rw [if_neg hi]
    have key : ∀ (d : Nat) (p : Int), d ≠ 0 → d.log2 ≤ 10 → -24 ≤ p + (d.log2 : Nat) → p + (d.log2 : Nat) ≤ 15 → ∃ s, s < 4294967296 ∧ sng s = h / 32768 * 9223372036854775808 + nr d p := by
      intro d p h0 hl hp0 hp1
      obtain ⟨a, b, c, d0⟩ := ns_spec (d := d) (p := p) h0 (by omega) (by omega) (by omega)
      refine ⟨h / 32768 * 2147483648 + ns d p, by omega, ?_⟩
      have q1 : (h / 32768 * 2147483648 + ns d p) % 2147483648 = ns d p := by omega
      have q2 : (h / 32768 * 2147483648 + ns d p) / 2147483648 = h / 32768 := by omega
      unfold sng
      rw [q1, q2, if_neg (by omega), if_neg (by omega), if_neg d0, b, c, nr_scale _ h0 (by omega)]
    by_cases hs : h % 32768 < 1024
    · rw [if_pos hs]
      by_cases hz : h % 32768 = 0
      · rw [if_pos hz]
        refine ⟨h / 32768 * 2147483648, by omega, ?_⟩
        have q1 : (h / 32768 * 2147483648) % 2147483648 = 0 := by omega
        have q2 : (h / 32768 * 2147483648) / 2147483648 = h / 32768 := by omega
        unfold sng
        rw [q1, q2, if_neg (by omega), if_neg (by omega), if_pos rfl]
      · rw [if_neg hz]
        have hl : (h % 32768).log2 < 10 := lg_small hz hs
        exact key _ _ hz (by omega) (by omega) (by omega)
    · rw [if_neg hs, ← hlf_norm (r := h % 32768) (by omega) (by omega)]
      have hl : (1024 + h % 32768 % 1024).log2 = 10 := lg_unique (by omega) (by omega)
      exact key _ _ (by omega) (by omega) (by omega) (by omega)
theorem sng_lt {s : Nat} (hs : s < 4294967296) : sng s < 18446744073709551616 := by
  unfold sng
  split
  · decide
  · have h2 : s / 2147483648 < 2 := by omega
    split
    · show _ + 9218868437227405312 < _; omega
    · split
      · omega
      · rename_i h1 h3 h4
        obtain ⟨a, b, c, d⟩ := single_parts h4 (by omega)
        have := (nr_spec (d := mg single (s % 2147483648)) (p := pl single (s % 2147483648)) a (by omega) (by omega) (by omega)).1
        have h5 : INF = 9218868437227405312 := rfl
        omega
theorem hlf_lt {h : Nat} (hh : h < 65536) : hlf h < 18446744073709551616 := by
  obtain ⟨s, a, b⟩ := hlf_single hh
  rw [← b]; exact sng_lt a
theorem near_le (f : Format) (m : Nat) (p : Int) : f.nearest false m p ≤ f.infRung := by
  unfold Format.nearest Format.word
  by_cases h : m = 0
  · simp [h]
  · simp [h, Nat.min_le_right]
theorem tosr_bound {b : Nat} (hb : b < 18446744073709551616) : tosr b < 4294967296 ∧ tosr b / 2147483648 = sg b ∧ tosr b % 2147483648 = single.nearest false (mg double (rg b)) (pl double (rg b)) := by
  have h := near_le single (mg double (rg b)) (pl double (rg b))
  rw [sgl_inf] at h
  have h2 : sg b < 2 := by unfold sg; omega
  unfold tosr
  omega
/-- Is the float of 64 bits one of 32? just if some single is that float. -/
theorem tos_iff {b : Nat} (hb : b < 18446744073709551616) (hn : rg b ≤ INF) : (tos b).2 = true ↔ (∃ s, s < 4294967296 ∧ sng s = b) := by
  constructor
  · intro h
    unfold tos at h
    rw [if_neg (by omega)] at h
    split at h
    · rename_i hi
      have h2 : sg b < 2 := by unfold sg; omega
      refine ⟨sg b * 2147483648 + 2139095040, by omega, ?_⟩
      have q1 : (sg b * 2147483648 + 2139095040) % 2147483648 = 2139095040 := by omega
      have q2 : (sg b * 2147483648 + 2139095040) / 2147483648 = sg b := by omega
      unfold sng
      rw [q1, q2, if_neg (by omega), if_pos rfl]
      unfold rg at hi
      unfold sg
      omega
    · split at h
      · rename_i h1 h2
        exact ⟨_, (tosr_bound hb).1, h2⟩
      · cases h
  · rintro ⟨s, hs, rfl⟩
    by_cases hk : s % 2147483648 ≤ 2139095040
    · rw [sng_back hs hk]
    · rw [sng_nan (by omega)] at hn
      exact absurd hn (by decide)
/-- What is told of a single that is that float is one. -/
theorem tos_sng {b : Nat} (hb : b < 18446744073709551616) (h : (tos b).2 = true) : (tos b).1 < 4294967296 ∧ sng (tos b).1 = (if INF < rg b then NANW else b) := by
  by_cases hn : INF < rg b
  · rw [if_pos hn, tos_nan hn]
    exact ⟨by decide, sng_nan (by decide)⟩
  · rw [if_neg hn]
    obtain ⟨s, hs, rfl⟩ := (tos_iff hb (by omega)).1 h
    by_cases hk : s % 2147483648 ≤ 2139095040
    · rw [sng_back hs hk]; exact ⟨hs, rfl⟩
    · rw [sng_nan (by omega)] at hn
      exact absurd nan_rg hn
theorem toh_hlf {b : Nat} (h : (toh b).2 = true) : hlf (toh b).1 = (if INF < rg b then NANW else b) := by
  by_cases hn : INF < rg b
  · rw [if_pos hn, toh_nan hn]
    exact hlf_nan (by decide)
  · rw [if_neg hn]
    unfold toh at h ⊢
    rw [if_neg hn] at h ⊢
    split at h
    · rename_i h1; rw [if_pos h1]; exact h1
    · cases h
theorem cuth_lt {b : Nat} (hb : b < 18446744073709551616) : cuth b < 65536 := by
  unfold cuth
  split
  · omega
  · split
    · omega
    · have h1 : (4503599627370496 + b % 4503599627370496) / 2 ^ (1051 - b / 4503599627370496 % 2048) ≤ (4503599627370496 + b % 4503599627370496) / 2 ^ 43 :=
        Nat.div_le_div_left (Nat.pow_le_pow_right (by decide) (by omega)) (Nat.two_pow_pos _)
      omega
theorem toh_lt {b : Nat} (hb : b < 18446744073709551616) : (toh b).1 < 65536 := by
  unfold toh
  split
  · decide
  · split
    · exact cuth_lt hb
    · decide
/-- What is a half is a single. -/
theorem toh_tos {b : Nat} (hb : b < 18446744073709551616) (h : (toh b).2 = true) : (tos b).2 = true := by
  by_cases hn : INF < rg b
  · rw [tos_nan hn]
  · have e := toh_hlf h
    rw [if_neg hn] at e
    rw [tos_iff hb (by omega), ← e]
    exact hlf_single (toh_lt hb)
end Go.Proofs.YtfaaagmjmljhiaaGreatDoor
end
section
namespace Go.Proofs.YtfaaagmjmljhiaaGreatDoor
open Ieee

/-- The digits, with the one that is left out; the power of two of the last one that is not nought; the digits up to it. -/
def dg (b : Nat) : Nat := b % 4503599627370496 + (if b / 4503599627370496 % 2048 = 0 then 0 else 4503599627370496)
def pw (b : Nat) : Int := if dg b = 0 then 0 else ((max (b / 4503599627370496 % 2048) 1 : Nat) : Int) - 1075 + (Lib.ctz 64 (dg b) : Nat)
def od (b : Nat) : Nat := if dg b = 0 then 0 else dg b / 2 ^ Lib.ctz 64 (dg b)
def beh (b : Nat) : Nat := if rg b < INF then (-(pw b)).toNat else 0
def whl (b : Nat) : Option Nat := if rg b < INF ∧ 0 ≤ pw b ∧ od b * 2 ^ (pw b).toNat < 2 ^ 256 then some (od b * 2 ^ (pw b).toNat) else none
def cls (b : Nat) : Nat := if INF < rg b then 16 else if rg b = INF then (if sg b = 0 then 4 else 8) else if (whl b).isSome then 0 else if beh b = 0 ∨ 64 < beh b then 2 else 1

theorem dg_rg (b : Nat) : dg b = dg (rg b) := by
  unfold dg rg
  have e1 : b % 9223372036854775808 % 4503599627370496 = b % 4503599627370496 := by omega
  have e2 : b % 9223372036854775808 / 4503599627370496 % 2048 = b / 4503599627370496 % 2048 := by omega
  rw [e1, e2]
theorem rg_rg (b : Nat) : rg (rg b) = rg b := by unfold rg; omega
theorem pw_rg (b : Nat) : pw b = pw (rg b) := by
  unfold pw
  rw [← dg_rg]
  have e2 : rg b / 4503599627370496 % 2048 = b / 4503599627370496 % 2048 := by unfold rg; omega
  rw [e2]
theorem od_rg (b : Nat) : od b = od (rg b) := by unfold od; rw [← dg_rg]
theorem beh_rg (b : Nat) : beh b = beh (rg b) := by unfold beh; rw [← pw_rg, rg_rg]
theorem whl_rg (b : Nat) : whl b = whl (rg b) := by unfold whl; rw [← pw_rg, ← od_rg, rg_rg]

/-- The word with the other sign. -/
def osg (b : Nat) : Nat := b ^^^ 9223372036854775808
theorem osg_rg (b : Nat) : rg (osg b) = rg b := by
  unfold rg osg
  have := Nat.xor_mod_two_pow (a := b) (b := 9223372036854775808) (n := 63)
  rw [show (9223372036854775808 : Nat) % 2 ^ 63 = 0 from by decide, Nat.xor_zero] at this
  exact this
theorem osg_sg {b : Nat} (hb : b < 18446744073709551616) : sg (osg b) = 1 - sg b := by
  unfold sg osg
  have := Nat.xor_div_two_pow (a := b) (b := 9223372036854775808) (n := 63)
  have h : b / 2 ^ 63 = 0 ∨ b / 2 ^ 63 = 1 := by omega
  rcases h with h | h <;> rw [h] at this <;> simp at this <;> omega
theorem osg_lt {b : Nat} (hb : b < 18446744073709551616) : osg b < 18446744073709551616 :=
  Nat.xor_lt_two_pow (n := 64) hb (by decide)
theorem word_of (b : Nat) : b = sg b * 9223372036854775808 + rg b := by unfold sg rg; omega
/-- What stands beside the sign in a single's word of 64 bits; a half's. -/
def sng0 (r : Nat) : Nat := if r = 2139095040 then INF else if r = 0 then 0 else nr (mg single r) (pl single r)
theorem sng_eq {s : Nat} (h : s % 2147483648 ≤ 2139095040) : sng s = s / 2147483648 * 9223372036854775808 + sng0 (s % 2147483648) := by
  unfold sng sng0
  rw [if_neg (by omega)]
theorem sng0_lt {r : Nat} (h : r ≤ 2139095040) : sng0 r < 9223372036854775808 := by
  have e := sng_eq (s := r) (by omega)
  have h2 := sng_lt (s := 2147483648 + r) (by omega)
  rw [sng_eq (s := 2147483648 + r) (by omega)] at h2
  rw [show (2147483648 + r) / 2147483648 = 1 from by omega, show (2147483648 + r) % 2147483648 = r from by omega] at h2
  omega
theorem tos_word {b : Nat} (hb : b < 18446744073709551616) (hn : rg b < INF) : (tos b).2 = decide (sng0 (single.nearest false (mg double (rg b)) (pl double (rg b))) = rg b) := by
  obtain ⟨h1, h2, h3⟩ := tosr_bound hb
  have h4 := near_le single (mg double (rg b)) (pl double (rg b))
  rw [sgl_inf] at h4
  have e := sng_eq (s := tosr b) (by omega)
  rw [h2, h3] at e
  have w := word_of b
  unfold tos
  rw [if_neg (by omega), if_neg (by omega)]
  by_cases h : sng0 (single.nearest false (mg double (rg b)) (pl double (rg b))) = rg b
  · rw [if_pos (by rw [e, h]; exact w.symm), decide_eq_true h]
  · rw [if_neg (fun h5 => h (by rw [e] at h5; omega)), decide_eq_false h]
theorem tos_sign {b : Nat} (hb : b < 18446744073709551616) : (tos (osg b)).2 = (tos b).2 := by
  by_cases h1 : INF < rg b
  · rw [tos_nan h1, tos_nan (by rw [osg_rg]; exact h1)]
  · by_cases h2 : rg b = INF
    · unfold tos
      rw [osg_rg, if_neg h1, if_neg h1, if_pos h2, if_pos h2]
    · rw [tos_word hb (by omega), tos_word (osg_lt hb) (by rw [osg_rg]; omega), osg_rg]
def hlf0 (r : Nat) : Nat := if r = 31744 then INF else if r < 1024 then (if r = 0 then 0 else nr r (-24)) else r * 4398046511104 + 4539628424389459968
def cuth0 (r : Nat) : Nat := if 1039 ≤ r / 4503599627370496 then 31744 else if 1008 < r / 4503599627370496 then (r / 4503599627370496 - 1008) * 1024 + r % 4503599627370496 / 4398046511104 else (4503599627370496 + r % 4503599627370496) / 2 ^ (1051 - r / 4503599627370496)
theorem cuth_eq (b : Nat) : cuth b = sg b * 32768 + cuth0 (rg b) := by
  unfold cuth cuth0 sg rg
  have e1 : b % 9223372036854775808 % 4503599627370496 = b % 4503599627370496 := by omega
  have e2 : b % 9223372036854775808 / 4503599627370496 = b / 4503599627370496 % 2048 := by omega
  rw [e1, e2]
theorem cuth0_le {r : Nat} (h : r < 9223372036854775808) : cuth0 r ≤ 31744 := by
  unfold cuth0
  split
  · omega
  · split
    · omega
    · have h1 : (4503599627370496 + r % 4503599627370496) / 2 ^ (1051 - r / 4503599627370496) ≤ (4503599627370496 + r % 4503599627370496) / 2 ^ 43 :=
        Nat.div_le_div_left (Nat.pow_le_pow_right (by decide) (by omega)) (Nat.two_pow_pos _)
      omega
theorem hlf_eq {h : Nat} (k : h % 32768 ≤ 31744) : hlf h = h / 32768 * 9223372036854775808 + hlf0 (h % 32768) := by
  unfold hlf hlf0
  rw [if_neg (by omega)]
theorem hlf0_lt {r : Nat} (h : r ≤ 31744) : hlf0 r < 9223372036854775808 := by
  have h2 := hlf_lt (h := 32768 + r) (by omega)
  rw [hlf_eq (by omega), show (32768 + r) / 32768 = 1 from by omega, show (32768 + r) % 32768 = r from by omega] at h2
  omega
theorem toh_word {b : Nat} (hn : rg b ≤ INF) : (toh b).2 = decide (hlf0 (cuth0 (rg b)) = rg b) := by
  have hr : rg b < 9223372036854775808 := Nat.mod_lt _ (by decide)
  have hc := cuth0_le hr
  have e := hlf_eq (h := cuth b) (by rw [cuth_eq]; omega)
  rw [cuth_eq, show (sg b * 32768 + cuth0 (rg b)) / 32768 = sg b from by omega, show (sg b * 32768 + cuth0 (rg b)) % 32768 = cuth0 (rg b) from by omega] at e
  have w := word_of b
  unfold toh
  rw [if_neg (by omega), cuth_eq]
  by_cases h : hlf0 (cuth0 (rg b)) = rg b
  · rw [if_pos (by rw [e, h]; exact w.symm), decide_eq_true h]
  · rw [if_neg (fun h5 => h (by rw [e] at h5; omega)), decide_eq_false h]
theorem toh_sign {b : Nat} : (toh (osg b)).2 = (toh b).2 := by
  by_cases h1 : INF < rg b
  · rw [toh_nan h1, toh_nan (by rw [osg_rg]; exact h1)]
  · rw [toh_word (b := osg b) (by rw [osg_rg]; omega), toh_word (b := b) (by omega), osg_rg]
theorem beh_sign (b : Nat) : beh (osg b) = beh b := by rw [beh_rg, osg_rg, ← beh_rg]
theorem whl_sign (b : Nat) : whl (osg b) = whl b := by rw [whl_rg, osg_rg, ← whl_rg]
theorem cls_sign {b : Nat} (hb : b < 18446744073709551616) : cls b = cls (osg b) ∨ (cls b = 4 ∧ cls (osg b) = 8) ∨ (cls b = 8 ∧ cls (osg b) = 4) := by
  unfold cls
  rw [osg_rg, osg_sg hb, beh_sign, whl_sign]
  have h2 : sg b = 0 ∨ sg b = 1 := by unfold sg; omega
  split
  · exact .inl rfl
  · split
    · rcases h2 with h | h <;> rw [h] <;> simp
    · exact .inl rfl
theorem cls_le (b : Nat) : cls b ≤ 16 := by
  unfold cls
  repeat (first | omega | split)
end Go.Proofs.YtfaaagmjmljhiaaGreatDoor
end
section
namespace Go.Proofs.YtfaaagmjmljhiaaGreatDoor
open Go.RowKit Go.Shelf

theorem isnan_core (b r : Int) (h : bits .andNot .u64 b 9223372036854775808 = r) (w : World) :
    Calls Tryz.prog 87 #[.int .u64 b] w fun e w' => e = .returned (.bool (decide (9218868437227405312 < r))) ∧ w' = w := by
  go_enter Tryz.func87, Tryz.ntmps87
  go_wp2
  go_ret
  exact ⟨rfl, rfl⟩
theorem isfin_core (b r : Int) (h : bits .andNot .u64 b 9223372036854775808 = r) (w : World) :
    Calls Tryz.prog 144 #[.int .u64 b] w fun e w' => e = .returned (.bool (decide (r < 9218868437227405312))) ∧ w' = w := by
  go_enter Tryz.func144, Tryz.ntmps144
  go_wp2
  go_ret
  exact ⟨rfl, rfl⟩
theorem sign_core (b : Int) (w : World) :
    Calls Tryz.prog 147 #[.int .u64 b] w fun e w' => e = .returned (.bool (b / 9223372036854775808 == 1)) ∧ w' = w := by
  go_enter Tryz.func147, Tryz.ntmps147
  go_wp2
  go_ret
  exact ⟨rfl, rfl⟩
theorem field_core (b r : Int) (h : bits .and .u64 (b / 4503599627370496) 2047 = r) (h0 : 0 ≤ r) (h1 : r < 2048) (w : World) :
    Calls Tryz.prog 127 #[.int .u64 b] w fun e w' => e = .returned (.int .i64 r) ∧ w' = w := by
  go_enter Tryz.func127, Tryz.ntmps127
  go_wp2
  go_ret
  exact ⟨rfl, rfl⟩
theorem rg_bits (b : Nat) (hb : b < 18446744073709551616) : bits .andNot .u64 (b : Int) 9223372036854775808 = (rg b : Nat) := by
  have h := u64_andNot_nat b 9223372036854775808 hb (by decide)
  rw [show 18446744073709551615 - 9223372036854775808 = 2 ^ 63 - 1 from by decide, Nat.and_two_pow_sub_one_eq_mod] at h
  exact h
theorem field_bits (b : Nat) (hb : b < 18446744073709551616) : bits .and .u64 ((b : Int) / 4503599627370496) 2047 = ((b / 4503599627370496 % 2048 : Nat) : Int) := by
  have h := u64_and_nat (b / 4503599627370496) 2047 (by omega) (by decide)
  rw [show (2047 : Nat) = 2 ^ 11 - 1 from by decide, Nat.and_two_pow_sub_one_eq_mod] at h
  exact h
section
variable (b : Nat) (hb : b < 18446744073709551616)
include hb
theorem isnan_yes (h : INF < rg b) (w : World) : Calls Tryz.prog 87 #[.int .u64 b] w fun e w' => e = .returned (.bool true) ∧ w' = w := by
  have := isnan_core b _ (rg_bits b hb) w
  rw [decide_eq_true (show (9218868437227405312 : Int) < (rg b : Nat) from by have h5 : INF = 9218868437227405312 := rfl; omega)] at this
  exact this
theorem isnan_no (h : ¬ INF < rg b) (w : World) : Calls Tryz.prog 87 #[.int .u64 b] w fun e w' => e = .returned (.bool false) ∧ w' = w := by
  have := isnan_core b _ (rg_bits b hb) w
  rw [decide_eq_false (show ¬ (9218868437227405312 : Int) < (rg b : Nat) from by have h5 : INF = 9218868437227405312 := rfl; omega)] at this
  exact this
theorem isfin_yes (h : rg b < INF) (w : World) : Calls Tryz.prog 144 #[.int .u64 b] w fun e w' => e = .returned (.bool true) ∧ w' = w := by
  have := isfin_core b _ (rg_bits b hb) w
  rw [decide_eq_true (show ((rg b : Nat) : Int) < 9218868437227405312 from by have h5 : INF = 9218868437227405312 := rfl; omega)] at this
  exact this
theorem isfin_no (h : ¬ rg b < INF) (w : World) : Calls Tryz.prog 144 #[.int .u64 b] w fun e w' => e = .returned (.bool false) ∧ w' = w := by
  have := isfin_core b _ (rg_bits b hb) w
  rw [decide_eq_false (show ¬ ((rg b : Nat) : Int) < 9218868437227405312 from by have h5 : INF = 9218868437227405312 := rfl; omega)] at this
  exact this
theorem field_any (w : World) : Calls Tryz.prog 127 #[.int .u64 b] w fun e w' => e = .returned (.int .i64 ((b / 4503599627370496 % 2048 : Nat) : Int)) ∧ w' = w :=
  field_core b _ (field_bits b hb) (by omega) (by omega) w
end
theorem hsign_no (b : Nat) (h : sg b = 0) (w : World) : Calls Tryz.prog 147 #[.int .u64 b] w fun e w' => e = .returned (.bool false) ∧ w' = w := by
  have := sign_core b w
  rw [show ((b : Int) / 9223372036854775808 == 1) = false from by rw [beq_eq_false_iff_ne]; unfold sg at h; omega] at this
  exact this
theorem hsign_yes (b : Nat) (h : sg b = 1) (w : World) : Calls Tryz.prog 147 #[.int .u64 b] w fun e w' => e = .returned (.bool true) ∧ w' = w := by
  have := sign_core b w
  rw [show ((b : Int) / 9223372036854775808 == 1) = true from by rw [beq_iff_eq]; unfold sg at h; omega] at this
  exact this

theorem canon_nan (b : Int) (c : ∀ W, Calls Tryz.prog 87 #[.int .u64 b] W fun e w' => e = .returned (.bool true) ∧ w' = W) (w : World) :
    Calls Tryz.prog 79 #[.int .u64 b] w fun e w' => e = .returned (.int .u64 9221120237041090560) ∧ w' = w := by
  have C := Lib.hid c; clear c
  go_enter Tryz.func79, Tryz.ntmps79
  go_wp2_with fail
  refine (C.out _).mono ?_
  rintro e w1 ⟨rfl, rfl⟩
  go_wp2
  go_ret
  exact ⟨rfl, rfl⟩
theorem canon_id (b : Int) (c : ∀ W, Calls Tryz.prog 87 #[.int .u64 b] W fun e w' => e = .returned (.bool false) ∧ w' = W) (w : World) :
    Calls Tryz.prog 79 #[.int .u64 b] w fun e w' => e = .returned (.int .u64 b) ∧ w' = w := by
  have C := Lib.hid c; clear c
  go_enter Tryz.func79, Tryz.ntmps79
  go_wp2_with fail
  refine (C.out _).mono ?_
  rintro e w1 ⟨rfl, rfl⟩
  go_wp2
  go_ret
  exact ⟨rfl, rfl⟩
/-- What Canon answers. -/
def can (b : Nat) : Nat := if INF < rg b then NANW else b
theorem canon_any (b : Nat) (hb : b < 18446744073709551616) (w : World) :
    Calls Tryz.prog 79 #[.int .u64 b] w fun e w' => e = .returned (.int .u64 (can b : Nat)) ∧ w' = w := by
  unfold can
  by_cases h : INF < rg b
  · rw [if_pos h]; exact canon_nan b (fun W => isnan_yes b hb h W) w
  · rw [if_neg h]; exact canon_id b (fun W => isnan_no b hb h W) w

set_option maxHeartbeats 400000 in
theorem parts_norm (b M0 M F t : Int) (e1 : bits .and .u64 b 4503599627370495 = M0) (e2 : bits .or .u64 M0 4503599627370496 = M) (hM : M ≠ 0) (hF0 : 1 ≤ F) (hF1 : F < 2048) (ht0 : 0 ≤ t) (ht1 : t < 64)
    (c1 : ∀ W, Calls Tryz.prog 127 #[.int .u64 b] W fun e w' => e = .returned (.int .i64 F) ∧ w' = W)
    (c2 : ∀ W, Tb W → Calls Tryz.prog 172 #[.int .u64 M] W fun e w' => e = .returned (.int .i64 t) ∧ w' = W) (w : World) (hT : Tb w) :
    Calls Tryz.prog 145 #[.int .u64 b] w fun e w' => e = .returned (.tuple #[.int .u64 (M / 2 ^ t.toNat), .int .i64 (F - 1023 - 52 + t)]) ∧ w' = w := by
  have C1 := Lib.hid c1; have C2 := Lib.hid c2; have HT := Lib.hid hT; clear c1 c2 hT
  have h3 : ((F == 0) : Bool) = false := by rw [beq_eq_false_iff_ne]; omega
  have h4 : ((F != 0) : Bool) = true := by rw [bne_iff_ne]; omega
  have h5 : ((M == 0) : Bool) = false := by rw [beq_eq_false_iff_ne]; exact hM
  have h6 : max F 1 = F := by omega
  clear hM
  go_enter Tryz.func145, Tryz.ntmps145
  go_wp2_with fail
  refine (C1.out _).mono ?_
  rintro e w1 ⟨rfl, rfl⟩
  go_wp2_with fail
  refine (C2.out _ HT.out).mono ?_
  rintro e w1 ⟨rfl, rfl⟩
  go_wp2_with fail
  refine (C1.out _).mono ?_
  rintro e w1 ⟨rfl, rfl⟩
  go_wp2
  go_ret2
  exact ⟨rfl, rfl⟩
set_option maxHeartbeats 400000 in
theorem parts_sub (b M t : Int) (e1 : bits .and .u64 b 4503599627370495 = M) (hM : M ≠ 0) (ht0 : 0 ≤ t) (ht1 : t < 64)
    (c1 : ∀ W, Calls Tryz.prog 127 #[.int .u64 b] W fun e w' => e = .returned (.int .i64 0) ∧ w' = W)
    (c2 : ∀ W, Tb W → Calls Tryz.prog 172 #[.int .u64 M] W fun e w' => e = .returned (.int .i64 t) ∧ w' = W) (w : World) (hT : Tb w) :
    Calls Tryz.prog 145 #[.int .u64 b] w fun e w' => e = .returned (.tuple #[.int .u64 (M / 2 ^ t.toNat), .int .i64 (1 - 1023 - 52 + t)]) ∧ w' = w := by
  have C1 := Lib.hid c1; have C2 := Lib.hid c2; have HT := Lib.hid hT; clear c1 c2 hT
  have h5 : ((M == 0) : Bool) = false := by rw [beq_eq_false_iff_ne]; exact hM
  clear hM
  go_enter Tryz.func145, Tryz.ntmps145
  go_wp2_with fail
  refine (C1.out _).mono ?_
  rintro e w1 ⟨rfl, rfl⟩
  go_wp2_with fail
  refine (C2.out _ HT.out).mono ?_
  rintro e w1 ⟨rfl, rfl⟩
  go_wp2_with fail
  refine (C1.out _).mono ?_
  rintro e w1 ⟨rfl, rfl⟩
  go_wp2
  go_ret2
  exact ⟨rfl, rfl⟩
theorem parts_zero (b : Int) (e1 : bits .and .u64 b 4503599627370495 = 0)
    (c1 : ∀ W, Calls Tryz.prog 127 #[.int .u64 b] W fun e w' => e = .returned (.int .i64 0) ∧ w' = W) (w : World) :
    Calls Tryz.prog 145 #[.int .u64 b] w fun e w' => e = .returned (.tuple #[.int .u64 0, .int .i64 0]) ∧ w' = w := by
  have C1 := Lib.hid c1; clear c1
  go_enter Tryz.func145, Tryz.ntmps145
  go_wp2_with fail
  refine (C1.out _).mono ?_
  rintro e w1 ⟨rfl, rfl⟩
  go_wp2
  go_ret2
  exact ⟨rfl, rfl⟩
theorem frac_bits (b : Nat) (hb : b < 18446744073709551616) : bits .and .u64 (b : Int) 4503599627370495 = ((b % 4503599627370496 : Nat) : Int) := by
  have h := u64_and_nat b 4503599627370495 hb (by decide)
  rw [show (4503599627370495 : Nat) = 2 ^ 52 - 1 from by decide, Nat.and_two_pow_sub_one_eq_mod] at h
  exact h
theorem hid_bits (b : Nat) : bits .or .u64 ((b % 4503599627370496 : Nat) : Int) 4503599627370496 = ((b % 4503599627370496 + 4503599627370496 : Nat) : Int) := by
  have h := u64_or_nat (b % 4503599627370496) 4503599627370496 (by omega) (by decide)
  have h2 := Nat.two_pow_add_eq_or_of_lt (i := 52) (b := b % 4503599627370496) (by omega) 1
  rw [Nat.mul_one, Nat.or_comm, show (2 : Nat) ^ 52 = 4503599627370496 from by decide] at h2
  rw [← h2, Nat.add_comm] at h
  exact h
theorem pow_div_cast (M t : Nat) : ((M : Int) / 2 ^ ((t : Nat) : Int).toNat) = ((M / 2 ^ t : Nat) : Int) := by
  rw [Int.toNat_natCast, Int.natCast_ediv, Int.natCast_pow]; rfl
theorem dg_lt (b : Nat) : dg b < 18446744073709551616 := by unfold dg; split <;> omega
theorem parts_any (b : Nat) (hb : b < 18446744073709551616) (w : World) (hT : Tb w) :
    Calls Tryz.prog 145 #[.int .u64 b] w fun e w' => e = .returned (.tuple #[.int .u64 (od b : Nat), .int .i64 (pw b)]) ∧ w' = w := by
  have hf := fun W => field_any b hb W
  have hdl := dg_lt b
  have e1 := frac_bits b hb
  by_cases h0 : dg b = 0
  · have hF : b / 4503599627370496 % 2048 = 0 := by
      apply Decidable.byContradiction
      intro h; unfold dg at h0; rw [if_neg h] at h0; omega
    have hm : b % 4503599627370496 = 0 := by unfold dg at h0; omega
    rw [hF] at hf
    rw [hm] at e1
    have := parts_zero b e1 hf w
    unfold od pw
    rw [if_pos h0, if_pos h0]
    exact this
  · have ht : Lib.ctz 64 (dg b) < 64 := by obtain ⟨m, _, h⟩ := ctz_word h0 hdl; exact h
    have hc := fun W hW => tz_any (dg b) hdl W hW
    unfold od pw
    rw [if_neg h0, if_neg h0]
    by_cases hF : b / 4503599627370496 % 2048 = 0
    · have hd : dg b = b % 4503599627370496 := by unfold dg; rw [if_pos hF]; rfl
      rw [hF] at hf
      rw [hd] at h0 ht hc ⊢
      have := parts_sub b _ (Lib.ctz 64 (b % 4503599627370496) : Nat) e1 (by omega) (by omega) (by omega) hf hc w hT
      rw [pow_div_cast] at this
      rw [hF, show ((max 0 1 : Nat) : Int) - 1075 + (Lib.ctz 64 (b % 4503599627370496) : Nat) = 1 - 1023 - 52 + (Lib.ctz 64 (b % 4503599627370496) : Nat) from by omega]
      exact this
    · have hd : dg b = b % 4503599627370496 + 4503599627370496 := by unfold dg; rw [if_neg hF]
      rw [hd] at h0 ht hc ⊢
      have := parts_norm b _ _ _ (Lib.ctz 64 (b % 4503599627370496 + 4503599627370496) : Nat) e1 (hid_bits b) (by omega) (show (1 : Int) ≤ ((b / 4503599627370496 % 2048 : Nat) : Int) by omega) (by omega) (by omega) (by omega) hf hc w hT
      rw [pow_div_cast] at this
      rw [show ((max (b / 4503599627370496 % 2048) 1 : Nat) : Int) - 1075 + (Lib.ctz 64 (b % 4503599627370496 + 4503599627370496) : Nat) = ((b / 4503599627370496 % 2048 : Nat) : Int) - 1023 - 52 + (Lib.ctz 64 (b % 4503599627370496 + 4503599627370496) : Nat) from by omega]
      exact this
theorem pw_bound (b : Nat) : -1074 ≤ pw b ∧ pw b ≤ 2047 := by
  unfold pw
  split
  · omega
  · rename_i h0
    obtain ⟨m, _, h⟩ := ctz_word h0 (dg_lt b)
    omega

theorem behind_no (b : Int) (c : ∀ W, Calls Tryz.prog 144 #[.int .u64 b] W fun e w' => e = .returned (.bool false) ∧ w' = W) (w : World) :
    Calls Tryz.prog 122 #[.int .u64 b] w fun e w' => e = .returned (.int .i64 0) ∧ w' = w := by
  have C := Lib.hid c; clear c
  go_enter Tryz.func122, Tryz.ntmps122
  go_wp2_with fail
  refine (C.out _).mono ?_
  rintro e w1 ⟨rfl, rfl⟩
  go_wp2
  go_ret
  exact ⟨rfl, rfl⟩
theorem behind_yes (b d p : Int) (h0 : -2000 ≤ p) (h1 : p ≤ 3000) (c : ∀ W, Calls Tryz.prog 144 #[.int .u64 b] W fun e w' => e = .returned (.bool true) ∧ w' = W)
    (c2 : ∀ W, Tb W → Calls Tryz.prog 145 #[.int .u64 b] W fun e w' => e = .returned (.tuple #[.int .u64 d, .int .i64 p]) ∧ w' = W) (w : World) (hT : Tb w) :
    Calls Tryz.prog 122 #[.int .u64 b] w fun e w' => e = .returned (.int .i64 (max (-p) 0)) ∧ w' = w := by
  have C := Lib.hid c; have C2 := Lib.hid c2; have HT := Lib.hid hT; clear c c2 hT
  go_enter Tryz.func122, Tryz.ntmps122
  go_wp2_with fail
  refine (C.out _).mono ?_
  rintro e w1 ⟨rfl, rfl⟩
  go_wp2_with fail
  refine (C2.out _ HT.out).mono ?_
  rintro e w1 ⟨rfl, rfl⟩
  go_wp2
  go_ret
  exact ⟨rfl, rfl⟩
theorem behind_any (b : Nat) (hb : b < 18446744073709551616) (w : World) (hT : Tb w) :
    Calls Tryz.prog 122 #[.int .u64 b] w fun e w' => e = .returned (.int .i64 (beh b : Nat)) ∧ w' = w := by
  have hp := pw_bound b
  unfold beh
  by_cases h : rg b < INF
  · rw [if_pos h]
    have := behind_yes b _ (pw b) (by omega) (by omega) (fun W => isfin_yes b hb h W) (fun W hW => parts_any b hb W hW) w hT
    rw [show (max (-pw b) 0) = (((-(pw b)).toNat : Nat) : Int) from by omega] at this
    exact this
  · rw [if_neg h]
    exact behind_no b (fun W => isfin_no b hb h W) w
end Go.Proofs.YtfaaagmjmljhiaaGreatDoor
end
section
namespace Go.Proofs.YtfaaagmjmljhiaaGreatDoor
open Go.RowKit Go.Shelf

theorem f64bits (x : Nat) (w : World) : (callFunc 129 #[.float .f64 x]).run Tryz.prog w = .ok (.value (.int .u64 x)) w := by kernel_rfl
theorem f64from (x : Nat) (w : World) : (callFunc 91 #[.int .u64 x]).run Tryz.prog w = .ok (.value (.float .f64 x)) w := by kernel_rfl
theorem f32bits (x : Nat) (w : World) : (callFunc 90 #[.float .f32 x]).run Tryz.prog w = .ok (.value (.int .u32 x)) w := by kernel_rfl
theorem f32from (x : Nat) (w : World) : (callFunc 130 #[.int .u32 x]).run Tryz.prog w = .ok (.value (.float .f32 x)) w := by kernel_rfl

theorem scaled_zero (p : Int) (w : World) :
    Calls Tryz.prog 128 #[.int .u64 0, .int .i64 p] w fun e w' => e = .returned (.int .u64 0) ∧ w' = w := by
  go_enter Tryz.func128, Tryz.ntmps128
  go_wp2
  go_ret
  exact ⟨rfl, rfl⟩
set_option maxRecDepth 100000 in
theorem scaled_core (d p y : Int) (x : Nat) (h0 : (d == 0) = false) (h1 : floatOfInt .f64 d = x) (hy : IntKind.u64.wrap (↑x + IntKind.u64.wrap (IntKind.u64.wrap p * 4503599627370496)) = y) (w : World) :
    Calls Tryz.prog 128 #[.int .u64 d, .int .i64 p] w fun e w' => e = .returned (.int .u64 y) ∧ w' = w := by
  have hb := fun W => f64bits x W
  have HY := Lib.hid hy; clear hy
  go_enter Tryz.func128, Tryz.ntmps128
  go_wp2
  go_ret
  exact ⟨by rw [← HY.out]; rfl, rfl⟩
theorem scaled_any (d : Nat) (p : Int) (h : d ≠ 0) (hl : d.log2 ≤ 52) (h0 : -1022 ≤ p + (d.log2 : Nat)) (h1 : p + (d.log2 : Nat) ≤ 1023) (w : World) :
    Calls Tryz.prog 128 #[.int .u64 d, .int .i64 p] w fun e w' => e = .returned (.int .u64 (nr d p : Nat)) ∧ w' = w := by
  have hb := top_bounds h hl
  refine scaled_core (d : Int) p _ (nr d 0) (by rw [beq_eq_false_iff_ne]; omega) ?_ ?_ w
  · have := near_dbl false (d := d) (p := 0) h hl (by omega) (by omega)
    rw [Bool.toNat_false, Nat.zero_mul, Nat.zero_add] at this
    rw [← this]
    show Ieee.double.nearest (decide ((d : Int) < 0)) ((d : Int).natAbs) 0 = _
    rw [decide_eq_false (by omega), Int.natAbs_natCast]
  · rw [IntKind.wrap_u64, IntKind.wrap_u64, IntKind.wrap_u64]
    unfold nr
    generalize d * 2 ^ (52 - d.log2) = M at *
    rw [show (2 : Nat) ^ 52 = 4503599627370496 from by decide, show (2 : Nat) ^ (52 + 1) = 9007199254740992 from by decide] at hb
    generalize d.log2 = l at *
    omega

set_option maxRecDepth 100000 in
theorem half_norm (h F D y z R : Int) (h0 : 0 ≤ h) (h1 : h < 65536) (e1 : bits .and .u16 (h / 1024) 31 = F) (e2 : bits .and .u16 h 1023 = D) (hF0 : 1 ≤ F) (hF1 : F < 31) (hD0 : 0 ≤ D) (hD1 : D < 1024)
    (e3 : bits .or .u64 1024 D = y) (e4 : bits .or .u64 (h / 32768 * 9223372036854775808) z = R)
    (c : ∀ W, Calls Tryz.prog 128 #[.int .u64 y, .int .i64 (F - 1 + -24)] W fun e w' => e = .returned (.int .u64 z) ∧ w' = W) (w : World) :
    Calls Tryz.prog 89 #[.int .u16 h] w fun e w' => e = .returned (.int .u64 R) ∧ w' = w := by
  have C := Lib.hid c; clear c
  have h3 : ((F == 0) : Bool) = false := by rw [beq_eq_false_iff_ne]; omega
  have h4 : ((F == 31) : Bool) = false := by rw [beq_eq_false_iff_ne]; omega
  go_enter Tryz.func89, Tryz.ntmps89
  go_wp2_with fail
  refine (C.out _).mono ?_
  rintro e w1 ⟨rfl, rfl⟩
  go_wp2
  go_ret
  exact ⟨rfl, rfl⟩
set_option maxRecDepth 100000 in
theorem half_sub (h D z R : Int) (h0 : 0 ≤ h) (h1 : h < 65536) (e1 : bits .and .u16 (h / 1024) 31 = 0) (e2 : bits .and .u16 h 1023 = D) (hD0 : 0 ≤ D) (hD1 : D < 1024)
    (e4 : bits .or .u64 (h / 32768 * 9223372036854775808) z = R)
    (c : ∀ W, Calls Tryz.prog 128 #[.int .u64 D, .int .i64 (-24)] W fun e w' => e = .returned (.int .u64 z) ∧ w' = W) (w : World) :
    Calls Tryz.prog 89 #[.int .u16 h] w fun e w' => e = .returned (.int .u64 R) ∧ w' = w := by
  have C := Lib.hid c; clear c
  go_enter Tryz.func89, Tryz.ntmps89
  go_wp2_with fail
  refine (C.out _).mono ?_
  rintro e w1 ⟨rfl, rfl⟩
  go_wp2
  go_ret
  exact ⟨rfl, rfl⟩
set_option maxRecDepth 100000 in
theorem half_inf (h R : Int) (h0 : 0 ≤ h) (h1 : h < 65536) (e1 : bits .and .u16 (h / 1024) 31 = 31) (e2 : bits .and .u16 h 1023 = 0)
    (e4 : bits .or .u64 (h / 32768 * 9223372036854775808) 9218868437227405312 = R) (w : World) :
    Calls Tryz.prog 89 #[.int .u16 h] w fun e w' => e = .returned (.int .u64 R) ∧ w' = w := by
  go_enter Tryz.func89, Tryz.ntmps89
  go_wp2
  go_ret
  exact ⟨rfl, rfl⟩
set_option maxRecDepth 100000 in
theorem half_nan (h D : Int) (h0 : 0 ≤ h) (h1 : h < 65536) (e1 : bits .and .u16 (h / 1024) 31 = 31) (e2 : bits .and .u16 h 1023 = D) (hD0 : 1 ≤ D) (hD1 : D < 1024) (w : World) :
    Calls Tryz.prog 89 #[.int .u16 h] w fun e w' => e = .returned (.int .u64 9221120237041090560) ∧ w' = w := by
  have h4 : ((D == 0) : Bool) = false := by rw [beq_eq_false_iff_ne]; omega
  have h5 : ((D != 0) : Bool) = true := by rw [bne_iff_ne]; omega
  go_enter Tryz.func89, Tryz.ntmps89
  go_wp2
  go_ret
  exact ⟨rfl, rfl⟩
theorem or_sign (n r : Nat) (hn : n < 2) (hr : r < 9223372036854775808) : bits .or .u64 ((n : Int) * 9223372036854775808) (r : Int) = ((n * 9223372036854775808 + r : Nat) : Int) := by
  have h := u64_or_nat (n * 9223372036854775808) r (by omega) (by omega)
  have h2 := Nat.two_pow_add_eq_or_of_lt (i := 63) (b := r) hr n
  rw [show (2 : Nat) ^ 63 = 9223372036854775808 from by decide, Nat.mul_comm] at h2
  rw [← h2] at h
  exact h
theorem or_1024 (d : Nat) (h : d < 1024) : bits .or .u64 1024 (d : Int) = ((1024 + d : Nat) : Int) := by
  have h1 := u64_or_nat 1024 d (by decide) (by omega)
  have h2 := Nat.two_pow_add_eq_or_of_lt (i := 10) (b := d) h 1
  rw [Nat.mul_one, show (2 : Nat) ^ 10 = 1024 from by decide] at h2
  rw [← h2] at h1
  exact h1
theorem half_field (h : Nat) (hh : h < 65536) : bits .and .u16 ((h : Int) / 1024) 31 = ((h % 32768 / 1024 : Nat) : Int) := by
  have h2 := u16_and_nat (h / 1024) 31 (by omega) (by decide)
  rw [show (31 : Nat) = 2 ^ 5 - 1 from by decide, Nat.and_two_pow_sub_one_eq_mod] at h2
  rw [show h % 32768 / 1024 = h / 1024 % 2 ^ 5 from by omega]
  exact h2
theorem half_frac (h : Nat) (hh : h < 65536) : bits .and .u16 (h : Int) 1023 = ((h % 1024 : Nat) : Int) := by
  have h2 := u16_and_nat h 1023 (by omega) (by decide)
  rw [show (1023 : Nat) = 2 ^ 10 - 1 from by decide, Nat.and_two_pow_sub_one_eq_mod] at h2
  exact h2
theorem half_or (h r : Nat) (hh : h < 65536) (hr : r < 9223372036854775808) : bits .or .u64 ((h : Int) / 32768 * 9223372036854775808) (r : Int) = ((h / 32768 * 9223372036854775808 + r : Nat) : Int) :=
  or_sign (h / 32768) r (by omega) hr
theorem half_any_nan (h : Nat) (hh : h < 65536) (k1 : 31744 < h % 32768) (w : World) : Calls Tryz.prog 89 #[.int .u16 (h : Int)] w fun e w' => e = .returned (.int .u64 (hlf h : Nat)) ∧ w' = w := by
  rw [hlf_nan k1]
  exact half_nan h _ (by omega) (by omega) (by rw [half_field h hh]; omega) (half_frac h hh) (by omega) (by omega) w
theorem castI : ((9218868437227405312 : Nat) : Int) = 9218868437227405312 := by decide
theorem half_any_inf (h : Nat) (hh : h < 65536) (k1 : h % 32768 = 31744) (w : World) : Calls Tryz.prog 89 #[.int .u16 (h : Int)] w fun e w' => e = .returned (.int .u64 (hlf h : Nat)) ∧ w' = w := by
  have e : hlf h = h / 32768 * 9223372036854775808 + 9218868437227405312 := by unfold hlf; rw [if_neg (by omega), if_pos k1]
  rw [e]
  have e4 := half_or h 9218868437227405312 hh (by decide)
  rw [castI] at e4
  have e1 := half_field h hh
  have e2 := half_frac h hh
  rw [show h % 32768 / 1024 = 31 from by omega] at e1
  rw [show h % 1024 = 0 from by omega] at e2
  exact half_inf h _ (by omega) (by omega) e1 e2 e4 w
theorem half_any_zero (h : Nat) (hh : h < 65536) (k1 : h % 32768 = 0) (w : World) : Calls Tryz.prog 89 #[.int .u16 (h : Int)] w fun e w' => e = .returned (.int .u64 (hlf h : Nat)) ∧ w' = w := by
  have e : hlf h = h / 32768 * 9223372036854775808 + 0 := by unfold hlf; rw [if_neg (by omega), if_neg (by omega), if_pos (by omega), if_pos k1]
  rw [e]
  exact half_sub h 0 0 _ (by omega) (by omega) (by rw [half_field h hh]; omega) (by rw [half_frac h hh]; omega) (by omega) (by omega) (half_or h 0 hh (by decide)) (fun W => scaled_zero _ W) w
theorem half_any_sub (h : Nat) (hh : h < 65536) (k1 : h % 32768 < 1024) (k0 : h % 32768 ≠ 0) (w : World) : Calls Tryz.prog 89 #[.int .u16 (h : Int)] w fun e w' => e = .returned (.int .u64 (hlf h : Nat)) ∧ w' = w := by
  have e : hlf h = h / 32768 * 9223372036854775808 + nr (h % 32768) (-24) := by unfold hlf; rw [if_neg (by omega), if_neg (by omega), if_pos (by omega), if_neg k0]
  have hl : (h % 32768).log2 < 10 := lg_small k0 k1
  have hb := (nr_spec (d := h % 32768) (p := -24) k0 (by omega) (by omega) (by omega)).1
  have hs := fun W => scaled_any (h % 32768) (-24) k0 (by omega) (by omega) (by omega) W
  rw [e]
  generalize nr (h % 32768) (-24) = z at *
  exact half_sub h ((h % 32768 : Nat) : Int) z _ (by omega) (by omega) (by rw [half_field h hh]; omega) (by rw [half_frac h hh]; omega) (by omega) (by omega) (half_or h z hh (Nat.lt_trans hb (by decide))) hs w
theorem half_any_norm (h : Nat) (hh : h < 65536) (k1 : 1024 ≤ h % 32768) (k2 : h % 32768 < 31744) (w : World) : Calls Tryz.prog 89 #[.int .u16 (h : Int)] w fun e w' => e = .returned (.int .u64 (hlf h : Nat)) ∧ w' = w := by
  have e : hlf h = h / 32768 * 9223372036854775808 + (h % 32768 * 4398046511104 + 4539628424389459968) := by unfold hlf; rw [if_neg (by omega), if_neg (by omega), if_neg (by omega)]
  have hl : (1024 + h % 32768 % 1024).log2 = 10 := lg_unique (by omega) (by omega)
  have en := hlf_norm (r := h % 32768) k1 k2
  have hs := fun W => scaled_any (1024 + h % 32768 % 1024) (((h % 32768 / 1024 : Nat) : Int) - 25) (by omega) (by omega) (by omega) (by omega) W
  have hz : h % 32768 * 4398046511104 + 4539628424389459968 < 9223372036854775808 := by omega
  rw [en] at hs
  rw [e]
  obtain ⟨z, ez⟩ : ∃ z, z = h % 32768 * 4398046511104 + 4539628424389459968 := ⟨_, rfl⟩
  rw [← ez] at hs hz ⊢
  have h25 : ((h % 32768 / 1024 : Nat) : Int) - 25 = ((h % 32768 / 1024 : Nat) : Int) - 1 + -24 := by omega
  rw [h25] at hs
  have ho := or_1024 (h % 1024) (by omega)
  rw [show 1024 + h % 1024 = 1024 + h % 32768 % 1024 from by omega] at ho
  exact half_norm h _ _ _ z _ (by omega) (by omega) (half_field h hh) (half_frac h hh) (by omega) (by omega) (by omega) (by omega) ho (half_or h z hh hz) hs w
theorem half_any (h : Nat) (hh : h < 65536) (w : World) : Calls Tryz.prog 89 #[.int .u16 (h : Int)] w fun e w' => e = .returned (.int .u64 (hlf h : Nat)) ∧ w' = w := by
  by_cases k1 : 31744 < h % 32768
  · exact half_any_nan h hh k1 w
  by_cases k2 : h % 32768 = 31744
  · exact half_any_inf h hh k2 w
  by_cases k3 : h % 32768 < 1024
  · by_cases k4 : h % 32768 = 0
    · exact half_any_zero h hh k4 w
    · exact half_any_sub h hh k3 k4 w
  · exact half_any_norm h hh (by omega) (by omega) w
end Go.Proofs.YtfaaagmjmljhiaaGreatDoor
end
section
namespace Go.Proofs.YtfaaagmjmljhiaaGreatDoor
open Go.RowKit Go.Shelf

set_option maxRecDepth 100000 in
theorem cut_big (b F R : Int) (h0 : 0 ≤ b) (h1 : b < 18446744073709551616) (hF0 : 1039 ≤ F) (hF1 : F < 2048) (e1 : bits .or .u16 (b / 9223372036854775808 * 32768) 31744 = R)
    (c : ∀ W, Calls Tryz.prog 127 #[.int .u64 b] W fun e w' => e = .returned (.int .i64 F) ∧ w' = W) (w : World) :
    Calls Tryz.prog 88 #[.int .u64 b] w fun e w' => e = .returned (.int .u16 R) ∧ w' = w := by
  have C := Lib.hid c; clear c
  go_enter Tryz.func88, Tryz.ntmps88
  go_wp2_with fail
  refine (C.out _).mono ?_
  rintro e w1 ⟨rfl, rfl⟩
  go_wp2
  go_ret
  exact ⟨rfl, rfl⟩
set_option maxRecDepth 100000 in
theorem cut_mid (b F X Y R : Int) (h0 : 0 ≤ b) (h1 : b < 18446744073709551616) (hF0 : 1009 ≤ F) (hF1 : F < 1039) (eX : bits .and .u64 b 4503599627370495 = X) (hX0 : 0 ≤ X) (hX1 : X < 4503599627370496)
    (e1 : bits .or .u16 (b / 9223372036854775808 * 32768) ((F - 1023 + 15) * 1024) = Y) (e2 : bits .or .u16 Y (X / 4398046511104) = R)
    (c : ∀ W, Calls Tryz.prog 127 #[.int .u64 b] W fun e w' => e = .returned (.int .i64 F) ∧ w' = W) (w : World) :
    Calls Tryz.prog 88 #[.int .u64 b] w fun e w' => e = .returned (.int .u16 R) ∧ w' = w := by
  have C := Lib.hid c; clear c
  go_enter Tryz.func88, Tryz.ntmps88
  go_wp2_with fail
  refine (C.out _).mono ?_
  rintro e w1 ⟨rfl, rfl⟩
  go_wp2
  go_ret
  exact ⟨rfl, rfl⟩
set_option maxRecDepth 100000 in
theorem cut_low (b F X Y Z R : Int) (h0 : 0 ≤ b) (h1 : b < 18446744073709551616) (hF0 : 0 ≤ F) (hF1 : F < 1009) (eX : bits .and .u64 b 4503599627370495 = X)
    (eY : bits .or .u64 4503599627370496 X = Y) (hs : ∀ W, (Op.shift .shr .u64 Y .i64 (43 - (F - 1023 + 15))).run Tryz.prog W = .ok (.int .u64 Z) W) (hZ0 : 0 ≤ Z) (hZ1 : Z < 1024) (e2 : bits .or .u16 (b / 9223372036854775808 * 32768) Z = R)
    (c : ∀ W, Calls Tryz.prog 127 #[.int .u64 b] W fun e w' => e = .returned (.int .i64 F) ∧ w' = W) (w : World) :
    Calls Tryz.prog 88 #[.int .u64 b] w fun e w' => e = .returned (.int .u16 R) ∧ w' = w := by
  have C := Lib.hid c; clear c
  go_enter Tryz.func88, Tryz.ntmps88
  go_wp2_with fail
  refine (C.out _).mono ?_
  rintro e w1 ⟨rfl, rfl⟩
  go_wp2
  go_ret
  exact ⟨rfl, rfl⟩

theorem tohalf_nan (b : Int) (c : ∀ W, Calls Tryz.prog 87 #[.int .u64 b] W fun e w' => e = .returned (.bool true) ∧ w' = W) (w : World) :
    Calls Tryz.prog 57 #[.int .u64 b] w fun e w' => e = .returned (.tuple #[.int .u16 32256, .bool true]) ∧ w' = w := by
  have C := Lib.hid c; clear c
  go_enter Tryz.func57, Tryz.ntmps57
  go_wp2_with fail
  refine (C.out _).mono ?_
  rintro e w1 ⟨rfl, rfl⟩
  go_wp2
  go_ret2
  exact ⟨rfl, rfl⟩
theorem tohalf_yes (b h : Int) (c : ∀ W, Calls Tryz.prog 87 #[.int .u64 b] W fun e w' => e = .returned (.bool false) ∧ w' = W)
    (c2 : ∀ W, Calls Tryz.prog 88 #[.int .u64 b] W fun e w' => e = .returned (.int .u16 h) ∧ w' = W)
    (c3 : ∀ W, Calls Tryz.prog 89 #[.int .u16 h] W fun e w' => e = .returned (.int .u64 b) ∧ w' = W) (w : World) :
    Calls Tryz.prog 57 #[.int .u64 b] w fun e w' => e = .returned (.tuple #[.int .u16 h, .bool true]) ∧ w' = w := by
  have C := Lib.hid c; have C2 := Lib.hid c2; have C3 := Lib.hid c3; clear c c2 c3
  go_enter Tryz.func57, Tryz.ntmps57
  go_wp2_with fail
  refine (C.out _).mono ?_
  rintro e w1 ⟨rfl, rfl⟩
  go_wp2_with fail
  refine (C2.out _).mono ?_
  rintro e w1 ⟨rfl, rfl⟩
  go_wp2_with fail
  refine (C3.out _).mono ?_
  rintro e w1 ⟨rfl, rfl⟩
  go_wp2
  go_ret2
  exact ⟨rfl, rfl⟩
theorem tohalf_no (b h d : Int) (hne : (d != b) = true) (c : ∀ W, Calls Tryz.prog 87 #[.int .u64 b] W fun e w' => e = .returned (.bool false) ∧ w' = W)
    (c2 : ∀ W, Calls Tryz.prog 88 #[.int .u64 b] W fun e w' => e = .returned (.int .u16 h) ∧ w' = W)
    (c3 : ∀ W, Calls Tryz.prog 89 #[.int .u16 h] W fun e w' => e = .returned (.int .u64 d) ∧ w' = W) (w : World) :
    Calls Tryz.prog 57 #[.int .u64 b] w fun e w' => e = .returned (.tuple #[.int .u16 0, .bool false]) ∧ w' = w := by
  have C := Lib.hid c; have C2 := Lib.hid c2; have C3 := Lib.hid c3; clear c c2 c3
  go_enter Tryz.func57, Tryz.ntmps57
  go_wp2_with fail
  refine (C.out _).mono ?_
  rintro e w1 ⟨rfl, rfl⟩
  go_wp2_with fail
  refine (C2.out _).mono ?_
  rintro e w1 ⟨rfl, rfl⟩
  go_wp2_with fail
  refine (C3.out _).mono ?_
  rintro e w1 ⟨rfl, rfl⟩
  go_wp2
  go_ret2
  exact ⟨rfl, rfl⟩

theorem single_core (s d : Nat) (r : Int) (hc : ∀ W, (convert 125 126 (.float .f32 s)).run Tryz.prog W = .ok (.float .f64 d) W)
    (c : ∀ W, Calls Tryz.prog 79 #[.int .u64 d] W fun e w' => e = .returned (.int .u64 r) ∧ w' = W) (w : World) :
    Calls Tryz.prog 92 #[.int .u32 s] w fun e w' => e = .returned (.int .u64 r) ∧ ∃ n, w' = w.drewN n := by
  have C := Lib.hid c; clear c
  have hb := fun W => f64bits d W
  have hf := fun W => f32from s W
  go_enter Tryz.func92, Tryz.ntmps92
  go_wp2_with fail
  refine (C.out _).mono ?_
  rintro e w1 ⟨rfl, rfl⟩
  go_wp2
  go_ret
  exact ⟨rfl, 0, rfl⟩
theorem single_drawn (s : Nat) (d : World → Nat) (r : Int) (hc : ∀ W, (convert 125 126 (.float .f32 s)).run Tryz.prog W = .ok (.float .f64 (d W)) W.drew)
    (c : ∀ V W, Calls Tryz.prog 79 #[.int .u64 (d V : Nat)] W fun e w' => e = .returned (.int .u64 r) ∧ w' = W) (w : World) :
    Calls Tryz.prog 92 #[.int .u32 s] w fun e w' => e = .returned (.int .u64 r) ∧ ∃ n, w' = w.drewN n := by
  have C := Lib.hid c; clear c
  have hb := fun x W => f64bits x W
  have hf := fun W => f32from s W
  go_enter Tryz.func92, Tryz.ntmps92
  go_wp2_with fail
  refine (C.out _ _).mono ?_
  rintro e w1 ⟨rfl, rfl⟩
  go_wp2
  go_ret
  exact ⟨rfl, 1, rfl⟩
theorem shr_at (Y k : Nat) (w : World) : (Op.shift .shr .u64 (Y : Int) .i64 (k : Int)).run Tryz.prog w = .ok (.int .u64 ((Y / 2 ^ min k 64 : Nat) : Int)) w := by
  have h : ¬ ((k : Int) < 0) := by omega
  have e : (Y : Int).fdiv (2 ^ min k 64) = ((Y / 2 ^ min k 64 : Nat) : Int) := by
    rw [Int.fdiv_eq_ediv_of_nonneg _ (Int.pow_nonneg (by decide)), Int.natCast_ediv, Int.natCast_pow]; rfl
  unfold Op.shift
  rw [if_neg h]
  simp only [IntKind.bits, Int.toNat_natCast, e]
  rfl
theorem shr_big {Y k : Nat} (h : Y < 2 ^ 64) : Y / 2 ^ min k 64 = Y / 2 ^ k := by
  by_cases hk : k ≤ 64
  · rw [Nat.min_eq_left hk]
  · have h2 : 2 ^ 64 ≤ 2 ^ k := Nat.pow_le_pow_right (by decide) (by omega)
    rw [Nat.min_eq_right (by omega), Nat.div_eq_of_lt h, Nat.div_eq_of_lt (Nat.lt_of_lt_of_le h h2)]
theorem or_16 (n r : Nat) (hn : n < 2) (hr : r < 32768) : bits .or .u16 ((n : Int) * 32768) (r : Int) = ((n * 32768 + r : Nat) : Int) := by
  have h := u16_or_nat (n * 32768) r (by omega) (by omega)
  have h2 := Nat.two_pow_add_eq_or_of_lt (i := 15) (b := r) hr n
  rw [show (2 : Nat) ^ 15 = 32768 from by decide, Nat.mul_comm] at h2
  rw [← h2] at h
  exact h
theorem or_10 (n r : Nat) (hn : n < 64) (hr : r < 1024) : bits .or .u16 ((n * 1024 : Nat) : Int) (r : Int) = ((n * 1024 + r : Nat) : Int) := by
  have h := u16_or_nat (n * 1024) r (by omega) (by omega)
  have h2 := Nat.two_pow_add_eq_or_of_lt (i := 10) (b := r) hr n
  rw [show (2 : Nat) ^ 10 = 1024 from by decide, Nat.mul_comm] at h2
  rw [← h2] at h
  exact h
theorem hid_bits' (b : Nat) : bits .or .u64 4503599627370496 ((b % 4503599627370496 : Nat) : Int) = ((4503599627370496 + b % 4503599627370496 : Nat) : Int) := by
  have h := u64_or_nat 4503599627370496 (b % 4503599627370496) (by decide) (by omega)
  have h2 := Nat.two_pow_add_eq_or_of_lt (i := 52) (b := b % 4503599627370496) (by omega) 1
  rw [Nat.mul_one, show (2 : Nat) ^ 52 = 4503599627370496 from by decide] at h2
  rw [← h2] at h
  exact h
set_option maxRecDepth 100000 in
theorem cut_any (b : Nat) (hb : b < 18446744073709551616) (w : World) :
    Calls Tryz.prog 88 #[.int .u64 b] w fun e w' => e = .returned (.int .u16 (cuth b : Nat)) ∧ w' = w := by
  have hf := fun W => field_any b hb W
  have hn : b / 9223372036854775808 < 2 := by omega
  have hm := frac_bits b hb
  have hX : b % 4503599627370496 < 4503599627370496 := by omega
  by_cases k1 : 1039 ≤ b / 4503599627370496 % 2048
  · have e : cuth b = b / 9223372036854775808 * 32768 + 31744 := by unfold cuth; rw [if_pos k1]
    have h := or_16 (b / 9223372036854775808) 31744 hn (by decide)
    rw [e]
    exact cut_big b _ _ (by omega) (by omega) (show (1039 : Int) ≤ ((b / 4503599627370496 % 2048 : Nat) : Int) by omega) (by omega) h hf w
  · by_cases k2 : 1008 < b / 4503599627370496 % 2048
    · have e : cuth b = b / 9223372036854775808 * 32768 + ((b / 4503599627370496 % 2048 - 1008) * 1024 + b % 4503599627370496 / 4398046511104) := by unfold cuth; rw [if_neg k1, if_pos k2]
      have hx := or_16 (b / 9223372036854775808) ((b / 4503599627370496 % 2048 - 1008) * 1024) hn (by omega)
      have hy := or_10 (b / 9223372036854775808 * 32 + (b / 4503599627370496 % 2048 - 1008)) (b % 4503599627370496 / 4398046511104) (by omega) (by omega)
      rw [e]
      rw [show (((b / 4503599627370496 % 2048 - 1008) * 1024 : Nat) : Int) = (((b / 4503599627370496 % 2048 : Nat) : Int) - 1023 + 15) * 1024 from by omega,
        show b / 9223372036854775808 * 32768 + (b / 4503599627370496 % 2048 - 1008) * 1024 = (b / 9223372036854775808 * 32 + (b / 4503599627370496 % 2048 - 1008)) * 1024 from by omega] at hx
      rw [show (b / 9223372036854775808 * 32 + (b / 4503599627370496 % 2048 - 1008)) * 1024 + b % 4503599627370496 / 4398046511104 = b / 9223372036854775808 * 32768 + ((b / 4503599627370496 % 2048 - 1008) * 1024 + b % 4503599627370496 / 4398046511104) from by omega] at hy
      exact cut_mid b _ _ _ _ (by omega) (by omega) (show (1009 : Int) ≤ ((b / 4503599627370496 % 2048 : Nat) : Int) by omega) (by omega) hm (by omega) (by omega) hx hy hf w
    · have e : cuth b = b / 9223372036854775808 * 32768 + (4503599627370496 + b % 4503599627370496) / 2 ^ (1051 - b / 4503599627370496 % 2048) := by unfold cuth; rw [if_neg k1, if_neg k2]
      have hz : (4503599627370496 + b % 4503599627370496) / 2 ^ (1051 - b / 4503599627370496 % 2048) < 1024 := by
        have h1 : (4503599627370496 + b % 4503599627370496) / 2 ^ (1051 - b / 4503599627370496 % 2048) ≤ (4503599627370496 + b % 4503599627370496) / 2 ^ 43 :=
          Nat.div_le_div_left (Nat.pow_le_pow_right (by decide) (by omega)) (Nat.two_pow_pos _)
        omega
      have hs := fun W => shr_at (4503599627370496 + b % 4503599627370496) (1051 - b / 4503599627370496 % 2048) W
      rw [shr_big (by omega)] at hs
      rw [e]
      have hq : ((1051 - b / 4503599627370496 % 2048 : Nat) : Int) = 43 - (((b / 4503599627370496 % 2048 : Nat) : Int) - 1023 + 15) := by omega
      rw [hq] at hs
      obtain ⟨z, ez⟩ : ∃ z, z = (4503599627370496 + b % 4503599627370496) / 2 ^ (1051 - b / 4503599627370496 % 2048) := ⟨_, rfl⟩
      rw [← ez] at hz hs ⊢
      have hx := or_16 (b / 9223372036854775808) z hn (by omega)
      exact cut_low b _ _ _ z _ (by omega) (by omega) (show (0 : Int) ≤ ((b / 4503599627370496 % 2048 : Nat) : Int) by omega) (by omega) hm (hid_bits' b) hs (by omega) (by omega) hx hf w
theorem tohalf_any (b : Nat) (hb : b < 18446744073709551616) (w : World) :
    Calls Tryz.prog 57 #[.int .u64 b] w fun e w' => e = .returned (.tuple #[.int .u16 ((toh b).1 : Nat), .bool (toh b).2]) ∧ w' = w := by
  by_cases h : INF < rg b
  · rw [toh_nan h]
    exact tohalf_nan b (fun W => isnan_yes b hb h W) w
  · have hh := fun W => half_any (cuth b) (cuth_lt hb) W
    by_cases k : hlf (cuth b) = b
    · have e : toh b = (cuth b, true) := by unfold toh; rw [if_neg h, if_pos k]
      rw [e]
      rw [k] at hh
      exact tohalf_yes b _ (fun W => isnan_no b hb h W) (fun W => cut_any b hb W) hh w
    · have e : toh b = (0, false) := by unfold toh; rw [if_neg h, if_neg k]
      rw [e]
      exact tohalf_no b _ _ (by rw [bne_iff_ne]; omega) (fun W => isnan_no b hb h W) (fun W => cut_any b hb W) hh w
end Go.Proofs.YtfaaagmjmljhiaaGreatDoor
end
section
namespace Go.Proofs.YtfaaagmjmljhiaaGreatDoor
open Go.RowKit Go.Shelf
open Ieee (Datum Format)

theorem conv_some (s d : Nat) (h : floatToFloatBits .f32 s .f64 = some d) (w : World) : (convert 125 126 (.float .f32 s)).run Tryz.prog w = .ok (.float .f64 d) w :=
  run_convert_float_float w _ _ .f32 .f64 s d (by kernel_rfl) (by kernel_rfl) h
theorem conv_some' (s d : Nat) (h : floatToFloatBits .f64 s .f32 = some d) (w : World) : (convert 126 125 (.float .f64 s)).run Tryz.prog w = .ok (.float .f32 d) w :=
  run_convert_float_float w _ _ .f64 .f32 s d (by kernel_rfl) (by kernel_rfl) h
def nanDraw (s : Nat) (W : World) : Nat := Question.cut (.nanConv .f64 s) (W.tape W.drawn (.nanConv .f64 s))
theorem conv_nan (s : Nat) (neg : Bool) (f : Nat) (h : FloatKind.decode .f32 s = .nan neg f) (w : World) : (convert 125 126 (.float .f32 s)).run Tryz.prog w = .ok (.float .f64 (nanDraw s w)) w.drew := by
  have hs : Tryz.prog.underlying 125 = some (.float .f32) := by kernel_rfl
  have hd : Tryz.prog.underlying 126 = some (.float .f64) := by kernel_rfl
  have ne : ¬ FloatKind.f32 = FloatKind.f64 := by decide
  simp [convert, run_underlying hs, run_underlying hd, Conv.floatToFloat, ne, h, Sem.run_bind]
  rfl
def wideDraw (s : Nat) (W : World) : Nat := Question.cut (.floatToFloat s) (W.tape W.drawn (.floatToFloat s))
theorem conv_wide (s : Nat) (neg : Bool) (m : Nat) (p : Int) (h : FloatKind.decode .f64 s = .number neg m p) (hi : (FloatKind.decode .f32 (FloatKind.encode .f32 (.number neg m p))).isInfinity = true) (w : World) :
    (convert 126 125 (.float .f64 s)).run Tryz.prog w = .ok (.float .f32 (wideDraw s w)) w.drew := by
  have hs : Tryz.prog.underlying 126 = some (.float .f64) := by kernel_rfl
  have hd : Tryz.prog.underlying 125 = some (.float .f32) := by kernel_rfl
  have ne : ¬ FloatKind.f64 = FloatKind.f32 := by decide
  simp [convert, run_underlying hs, run_underlying hd, Conv.floatToFloat, ne, h, hi, Sem.run_bind]
  rfl
theorem nanDraw_bounds (s : Nat) (W : World) : nanDraw s W < 18446744073709551616 ∧ INF < rg (nanDraw s W) := by
  unfold nanDraw Question.cut rg
  have h5 : INF = 9218868437227405312 := rfl
  generalize W.tape W.drawn (.nanConv .f64 s) = t
  simp only []
  have h : t % 2 = 0 ∨ t % 2 = 1 := by omega
  have h2 : t / 2 % (2 ^ 52 - 1) < 2 ^ 52 - 1 := Nat.mod_lt _ (by decide)
  generalize t / 2 % (2 ^ 52 - 1) = r at *
  rcases h with h | h <;> rw [h] <;> omega
theorem wideDraw_lt (s : Nat) (W : World) : wideDraw s W < 4294967296 := by
  unfold wideDraw Question.cut
  simp only []
  omega

theorem tosingle_nan (b : Int) (c : ∀ W, Calls Tryz.prog 87 #[.int .u64 b] W fun e w' => e = .returned (.bool true) ∧ w' = W) (w : World) :
    Calls Tryz.prog 58 #[.int .u64 b] w fun e w' => e = .returned (.tuple #[.int .u32 2143289344, .bool true]) ∧ Below w.heap.size w w' := by
  have C := Lib.hid c; clear c
  go_enter Tryz.func58, Tryz.ntmps58
  go_wp2_with fail
  refine (C.out _).mono ?_
  rintro e w1 ⟨rfl, rfl⟩
  go_wp2
  go_ret2
  exact ⟨rfl, Below.refl _ _⟩
theorem tosingle_yes (b s : Nat) (hc : ∀ W, (convert 126 125 (.float .f64 b)).run Tryz.prog W = .ok (.float .f32 s) W)
    (c : ∀ W, Calls Tryz.prog 87 #[.int .u64 b] W fun e w' => e = .returned (.bool false) ∧ w' = W)
    (c3 : ∀ W, Calls Tryz.prog 92 #[.int .u32 s] W fun e w' => e = .returned (.int .u64 b) ∧ ∃ n, w' = W.drewN n) (w : World) :
    Calls Tryz.prog 58 #[.int .u64 b] w fun e w' => e = .returned (.tuple #[.int .u32 s, .bool true]) ∧ Below w.heap.size w w' := by
  have C := Lib.hid c; have C3 := Lib.hid c3; clear c c3
  have hb := fun W => f32bits s W
  have hf := fun W => f64from b W
  go_enter Tryz.func58, Tryz.ntmps58
  go_wp2_with fail
  refine (C.out _).mono ?_
  rintro e w1 ⟨rfl, rfl⟩
  go_wp2_with fail
  refine (C3.out _).mono ?_
  rintro e w1 ⟨rfl, n, rfl⟩
  go_wp2
  go_ret2
  exact ⟨rfl, bdn (Below.refl _ _) _⟩
theorem tosingle_no (b s : Nat) (d : Int) (hne : (d != (b : Int)) = true) (hc : ∀ W, (convert 126 125 (.float .f64 b)).run Tryz.prog W = .ok (.float .f32 s) W)
    (c : ∀ W, Calls Tryz.prog 87 #[.int .u64 b] W fun e w' => e = .returned (.bool false) ∧ w' = W)
    (c3 : ∀ W, Calls Tryz.prog 92 #[.int .u32 s] W fun e w' => e = .returned (.int .u64 d) ∧ ∃ n, w' = W.drewN n) (w : World) :
    Calls Tryz.prog 58 #[.int .u64 b] w fun e w' => e = .returned (.tuple #[.int .u32 0, .bool false]) ∧ Below w.heap.size w w' := by
  have C := Lib.hid c; have C3 := Lib.hid c3; clear c c3
  have hb := fun W => f32bits s W
  have hf := fun W => f64from b W
  go_enter Tryz.func58, Tryz.ntmps58
  go_wp2_with fail
  refine (C.out _).mono ?_
  rintro e w1 ⟨rfl, rfl⟩
  go_wp2_with fail
  refine (C3.out _).mono ?_
  rintro e w1 ⟨rfl, n, rfl⟩
  go_wp2
  go_ret2
  exact ⟨rfl, bdn (Below.refl _ _) _⟩
theorem tosingle_drawn (b : Nat) (s : World → Nat) (d : World → Int) (hne : ∀ V, (d V != (b : Int)) = true) (hc : ∀ W, (convert 126 125 (.float .f64 b)).run Tryz.prog W = .ok (.float .f32 (s W)) W.drew)
    (c : ∀ W, Calls Tryz.prog 87 #[.int .u64 b] W fun e w' => e = .returned (.bool false) ∧ w' = W)
    (c3 : ∀ V W, Calls Tryz.prog 92 #[.int .u32 (s V : Nat)] W fun e w' => e = .returned (.int .u64 (d V)) ∧ ∃ n, w' = W.drewN n) (w : World) :
    Calls Tryz.prog 58 #[.int .u64 b] w fun e w' => e = .returned (.tuple #[.int .u32 0, .bool false]) ∧ Below w.heap.size w w' := by
  have C := Lib.hid c; have C3 := Lib.hid c3; clear c c3
  have hb := fun x W => f32bits x W
  have hf := fun W => f64from b W
  go_enter Tryz.func58, Tryz.ntmps58
  go_wp2_with fail
  refine (C.out _).mono ?_
  rintro e w1 ⟨rfl, rfl⟩
  go_wp2_with fail
  refine (C3.out _ _).mono ?_
  rintro e w1 ⟨rfl, n, rfl⟩
  go_wp2
  go_ret2
  exact ⟨rfl, bdn (Below.refl _ _) _⟩

theorem sgl_read {s : Nat} (hs : s < 4294967296) (h : s % 2147483648 < 2139095040) : FloatKind.decode .f32 s = .number (s / 2147483648 == 1) (mg Ieee.single (s % 2147483648)) (pl Ieee.single (s % 2147483648)) := by
  have := read_word Ieee.single (s / 2147483648 == 1) (s % 2147483648) (by rw [sgl_inf]; exact h) (by rw [sgl_sign]; omega)
  rw [sgl_word, ← sgn_or (n := s / 2147483648) (by omega), show s / 2147483648 * 2147483648 + s % 2147483648 = s from by omega] at this
  exact this
theorem dbl_read {b : Nat} (hb : b < 18446744073709551616) (h : rg b < INF) : FloatKind.decode .f64 b = .number (sg b == 1) (mg Ieee.double (rg b)) (pl Ieee.double (rg b)) := by
  have h5 : INF = 9218868437227405312 := rfl
  have h2 : sg b < 2 := by unfold sg; omega
  have := read_word Ieee.double (sg b == 1) (rg b) (by rw [dbl_inf]; exact h) (by rw [dbl_sign]; omega)
  rw [dbl_word, ← sgn_or h2, ← word_of] at this
  exact this
theorem read_inf (f : Format) (neg : Bool) (h0 : f.binade ≤ f.infRung) (h : f.infRung < f.signWeight) : f.read (f.word neg f.infRung) = .infinity neg := by
  have e1 : f.word neg f.infRung % f.signWeight = f.infRung := by
    unfold Format.word
    cases neg
    · simp [Nat.mod_eq_of_lt h]
    · simp [Nat.mod_eq_of_lt h]
  have e2 : (f.word neg f.infRung / f.signWeight % 2 == 1) = neg := by
    have hp : 0 < f.signWeight := by omega
    unfold Format.word
    cases neg
    · simp [Nat.div_eq_of_lt h]
    · simp [Nat.add_div_left _ hp, Nat.div_eq_of_lt h]
  unfold Format.read
  simp only [e1, e2, Nat.lt_irrefl, if_false, if_true]
  rw [if_neg (by omega)]
theorem sgl_read_inf {s : Nat} (hs : s < 4294967296) (h : s % 2147483648 = 2139095040) : FloatKind.decode .f32 s = .infinity (s / 2147483648 == 1) := by
  have := read_inf Ieee.single (s / 2147483648 == 1) (by decide) (by decide)
  rw [sgl_word, sgl_inf, ← sgn_or (n := s / 2147483648) (by omega), show s / 2147483648 * 2147483648 + 2139095040 = s from by omega] at this
  exact this
theorem dbl_read_inf {b : Nat} (hb : b < 18446744073709551616) (h : rg b = INF) : FloatKind.decode .f64 b = .infinity (sg b == 1) := by
  have h5 : INF = 9218868437227405312 := rfl
  have h2 : sg b < 2 := by unfold sg; omega
  have := read_inf Ieee.double (sg b == 1) (by decide) (by decide)
  have hw := word_of b
  rw [h, h5] at hw
  rw [dbl_word, dbl_inf, ← sgn_or h2, ← hw] at this
  exact this
theorem sgl_read_nan {s : Nat} (h : 2139095040 < s % 2147483648) : ∃ neg f, FloatKind.decode .f32 s = .nan neg f := by
  show ∃ neg f, Ieee.single.read s = .nan neg f
  unfold Format.read
  simp only [sgl_sign, sgl_binade, sgl_inf]
  rw [if_neg (by omega), if_neg (by omega), if_neg (by omega)]
  exact ⟨_, _, rfl⟩
theorem can_nan {b : Nat} (h : INF < rg b) : can b = NANW := by unfold can; rw [if_pos h]
theorem can_id {b : Nat} (h : rg b ≤ INF) : can b = b := by unfold can; rw [if_neg (by omega)]
/-- A single that is none's number in 64 bits. -/
theorem sng_conv {s : Nat} (hs : s < 4294967296) (h : s % 2147483648 ≤ 2139095040) : floatToFloatBits .f32 s .f64 = some (sng s) ∧ rg (sng s) ≤ INF := by
  have h5 : INF = 9218868437227405312 := rfl
  have ne : ¬ FloatKind.f32 = FloatKind.f64 := by decide
  have hsg := sgn_or (n := s / 2147483648) (by omega)
  unfold floatToFloatBits
  rw [if_neg ne]
  by_cases k : s % 2147483648 = 2139095040
  · rw [sgl_read_inf hs k]
    have e : sng s = s / 2147483648 * 9223372036854775808 + 9218868437227405312 := by unfold sng; rw [if_neg (by omega), if_pos k]
    constructor
    · show some (Ieee.double.word (s / 2147483648 == 1) Ieee.double.infRung) = _
      rw [dbl_word, dbl_inf, ← hsg, e]
    · rw [e]; unfold rg; omega
  · rw [sgl_read hs (by omega)]
    by_cases k0 : s % 2147483648 = 0
    · have e : sng s = s / 2147483648 * 9223372036854775808 + 0 := by unfold sng; rw [if_neg (by omega), if_neg k, if_pos k0]
      have ew : FloatKind.encode .f64 (.number (s / 2147483648 == 1) (mg Ieee.single (s % 2147483648)) (pl Ieee.single (s % 2147483648))) = sng s := by
        show Ieee.double.nearest _ _ _ = _
        rw [k0, show mg Ieee.single 0 = 0 from by decide, near_zero, dbl_word, ← hsg, e]
      have er := dbl_read (b := sng s) (sng_lt hs) (by rw [e]; unfold rg; omega)
      dsimp only
      rw [ew, er]
      exact ⟨rfl, by rw [e]; unfold rg; omega⟩
    · obtain ⟨a, b, c, d⟩ := single_parts k0 (by omega)
      have hn := (nr_spec (d := mg Ieee.single (s % 2147483648)) (p := pl Ieee.single (s % 2147483648)) a (by omega) (by omega) (by omega)).1
      have e : sng s = s / 2147483648 * 9223372036854775808 + nr (mg Ieee.single (s % 2147483648)) (pl Ieee.single (s % 2147483648)) := by unfold sng; rw [if_neg (by omega), if_neg k, if_neg k0]
      have ew : FloatKind.encode .f64 (.number (s / 2147483648 == 1) (mg Ieee.single (s % 2147483648)) (pl Ieee.single (s % 2147483648))) = sng s := by
        show Ieee.double.nearest _ _ _ = _
        rw [near_dbl _ a (by omega) (by omega) (by omega), ← hsg, e]
      have er := dbl_read (b := sng s) (sng_lt hs) (by rw [e]; unfold rg; omega)
      dsimp only
      rw [ew, er]
      exact ⟨rfl, by rw [e]; unfold rg; omega⟩
theorem single_any (s : Nat) (hs : s < 4294967296) (w : World) :
    Calls Tryz.prog 92 #[.int .u32 s] w fun e w' => e = .returned (.int .u64 (sng s : Nat)) ∧ ∃ n, w' = w.drewN n := by
  by_cases h : s % 2147483648 ≤ 2139095040
  · obtain ⟨h1, h2⟩ := sng_conv hs h
    have hc := fun W => canon_any (sng s) (sng_lt hs) W
    rw [can_id h2] at hc
    exact single_core s _ _ (fun W => conv_some s _ h1 W) hc w
  · obtain ⟨neg, f, hd⟩ := sgl_read_nan (s := s) (by omega)
    rw [sng_nan (by omega)]
    refine single_drawn s (nanDraw s) _ (fun W => conv_nan s neg f hd W) (fun V W => ?_) w
    have hc := canon_any (nanDraw s V) (nanDraw_bounds s V).1 W
    rw [can_nan (nanDraw_bounds s V).2] at hc
    exact hc
theorem tosr_encode {b : Nat} (hb : b < 18446744073709551616) : FloatKind.encode .f32 (.number (sg b == 1) (mg Ieee.double (rg b)) (pl Ieee.double (rg b))) = tosr b := by
  have h2 : sg b < 2 := by unfold sg; omega
  show Ieee.single.nearest _ _ _ = _
  rw [near_sign, sgl_sign, ← sgn_or h2]
  rfl
theorem inf_bits {s : Nat} (hs : s < 4294967296) (hle : s % 2147483648 ≤ 2139095040) : (FloatKind.decode .f32 s).isInfinity = decide (s % 2147483648 = 2139095040) := by
  by_cases h : s % 2147483648 = 2139095040
  · rw [sgl_read_inf hs h, decide_eq_true h]; rfl
  · rw [sgl_read hs (by omega), decide_eq_false h]; rfl
theorem tosingle_any (b : Nat) (hb : b < 18446744073709551616) (w : World) :
    Calls Tryz.prog 58 #[.int .u64 b] w fun e w' => e = .returned (.tuple #[.int .u32 ((tos b).1 : Nat), .bool (tos b).2]) ∧ Below w.heap.size w w' := by
  have h5 : INF = 9218868437227405312 := rfl
  have h2 : sg b < 2 := by unfold sg; omega
  have hw := word_of b
  have ne : ¬ FloatKind.f64 = FloatKind.f32 := by decide
  by_cases h : INF < rg b
  · rw [tos_nan h]
    exact tosingle_nan b (fun W => isnan_yes b hb h W) w
  have hnan := fun W => isnan_no b hb h W
  by_cases hi : rg b = INF
  · have e : tos b = (sg b * 2147483648 + 2139095040, true) := by unfold tos; rw [if_neg h, if_pos hi]
    have q1 : (sg b * 2147483648 + 2139095040) % 2147483648 = 2139095040 := by omega
    have q2 : (sg b * 2147483648 + 2139095040) / 2147483648 = sg b := by omega
    have hs : sng (sg b * 2147483648 + 2139095040) = b := by
      unfold sng
      rw [q1, q2, if_neg (by omega), if_pos rfl]
      omega
    rw [e]
    have h1 := fun W => single_any (sg b * 2147483648 + 2139095040) (by omega) W
    rw [hs] at h1
    refine tosingle_yes b _ (fun W => conv_some' b _ ?_ W) hnan h1 w
    unfold floatToFloatBits
    rw [if_neg ne, dbl_read_inf hb hi]
    show some (Ieee.single.word (sg b == 1) Ieee.single.infRung) = _
    rw [sgl_word, sgl_inf, ← sgn_or h2]
  · have hd := dbl_read hb (by omega)
    obtain ⟨t1, t2, t3⟩ := tosr_bound hb
    have hle := near_le Ieee.single (mg Ieee.double (rg b)) (pl Ieee.double (rg b))
    rw [← t3, sgl_inf] at hle
    have e : tos b = if sng (tosr b) = b then (tosr b, true) else (0, false) := by unfold tos; rw [if_neg h, if_neg hi]
    by_cases k : tosr b % 2147483648 = 2139095040
    · have hno : ∀ s, s < 4294967296 → sng s ≠ b := by
        intro s hs hsb
        have := (tos_iff hb (by omega)).2 ⟨s, hs, hsb⟩
        rw [e] at this
        split at this
        · rename_i h3
          rw [sng_eq hle, k] at h3
          have : sng0 2139095040 = INF := by unfold sng0; rw [if_pos rfl]
          rw [this] at h3
          omega
        · cases this
      rw [e, if_neg (hno _ t1)]
      refine tosingle_drawn b (wideDraw b) (fun V => (sng (wideDraw b V) : Nat)) (fun V => ?_) (fun W => conv_wide b _ _ _ hd ?_ W) hnan (fun V W => single_any _ (wideDraw_lt b V) W) w
      · have := hno _ (wideDraw_lt b V)
        rw [bne_iff_ne]; omega
      · rw [tosr_encode hb, inf_bits t1 hle, decide_eq_true k]
    · have hconv : floatToFloatBits .f64 b .f32 = some (tosr b) := by
        unfold floatToFloatBits
        rw [if_neg ne, hd]
        simp only []
        rw [tosr_encode hb, inf_bits t1 hle, decide_eq_false k]
        rfl
      have h1 := fun W => single_any (tosr b) t1 W
      rw [e]
      by_cases hk : sng (tosr b) = b
      · rw [if_pos hk]
        rw [hk] at h1
        exact tosingle_yes b _ (fun W => conv_some' b _ hconv W) hnan h1 w
      · rw [if_neg hk]
        exact tosingle_no b _ _ (by rw [bne_iff_ne]; omega) (fun W => conv_some' b _ hconv W) hnan h1 w
end Go.Proofs.YtfaaagmjmljhiaaGreatDoor
end
section
namespace Go.Proofs.YtfaaagmjmljhiaaGreatDoor
open Go.RowKit Go.Shelf
attribute [local go_sem ↓] eql_nat neq_nat eql_int5 neq_int5

set_option maxHeartbeats 1000000 in
set_option maxRecDepth 100000 in
theorem whole_no (b : Int)
    (k1 : ∀ W, Calls Tryz.prog 144 #[.int .u64 b] W fun e w' => e = .returned (.bool false) ∧ w' = W) (w : World) :
    Calls Tryz.prog 121 #[.int .u64 b] w fun e w' => e = .returned (.tuple #[.agg #[.bool false, .int .u64 0, .int .u64 0, .int .u64 0, .int .u64 0], .bool false]) ∧ Below w.heap.size w w' := by
  have K1 := Lib.hid k1; clear k1
  go_enter Tryz.func121, Tryz.ntmps121
  go_wp2_with fail
  refine (K1.out _).mono ?_
  rintro e w1 ⟨rfl, hw⟩
  rw [hw]; clear hw w1
  go_wp2
  exact bodyPost_ret (v := .tuple #[.agg #[.bool false, .int .u64 0, .int .u64 0, .int .u64 0, .int .u64 0], .bool false]) (by simp [results, Tryz.results121, go_sem]) rfl ⟨rfl, by repeat (first | (with_reducible exact Below.refl _ _) | (with_reducible refine bal ?_ _) | (with_reducible refine Below.drew ?_) | (with_reducible refine bdn ?_ _))⟩

set_option maxHeartbeats 1000000 in
set_option maxRecDepth 100000 in
theorem whole_false (b d p x0 x1 x2 x3 : Int) (q : Bool)
    (k1 : ∀ W, Calls Tryz.prog 144 #[.int .u64 b] W fun e w' => e = .returned (.bool true) ∧ w' = W)
    (k2 : ∀ W, Tb W → Calls Tryz.prog 145 #[.int .u64 b] W fun e w' => e = .returned (.tuple #[.int .u64 d, .int .i64 p]) ∧ w' = W)
    (k3 : ∀ W, Calls Tryz.prog 146 #[.agg #[.int .u64 d, .int .u64 0, .int .u64 0, .int .u64 0], .int .i64 p] W fun e w' => e = .returned (.tuple #[.agg #[.int .u64 x0, .int .u64 x1, .int .u64 x2, .int .u64 x3], .bool q]) ∧ Below W.heap.size W w')
    (k4 : ∀ W, Calls Tryz.prog 147 #[.int .u64 b] W fun e w' => e = .returned (.bool false) ∧ w' = W) (w : World) (hT : Tb w) :
    Calls Tryz.prog 121 #[.int .u64 b] w fun e w' => e = .returned (.tuple #[.agg #[.bool false, .int .u64 x0, .int .u64 x1, .int .u64 x2, .int .u64 x3], .bool q]) ∧ Below w.heap.size w w' := by
  have K1 := Lib.hid k1; clear k1
  have K2 := Lib.hid k2; clear k2
  have K3 := Lib.hid k3; clear k3
  have K4 := Lib.hid k4; clear k4
  have HT := Lib.hid hT; clear hT
  go_enter Tryz.func121, Tryz.ntmps121
  go_wp2_with fail
  refine (K1.out _).mono ?_
  rintro e w1 ⟨rfl, hw⟩
  rw [hw]; clear hw w1
  go_wp2_with fail
  refine (K2.out _ (tb_on HT.out (by repeat (first | (with_reducible exact Below.refl _ _) | (with_reducible refine bal ?_ _) | (with_reducible refine Below.drew ?_) | (with_reducible refine bdn ?_ _))))).mono ?_
  rintro e w1 ⟨rfl, hw⟩
  rw [hw]; clear hw w1
  go_wp2_with fail
  (with_reducible refine (of_any _ _).mono ?_)
  rintro e w1 ⟨rfl, hb⟩
  have BW1 : Below w.heap.size w w1 := btr (by repeat (first | (with_reducible exact Below.refl _ _) | (with_reducible refine bal ?_ _) | (with_reducible refine Below.drew ?_) | (with_reducible refine bdn ?_ _))) hb
  have R1 : Row5 w1 w.heap.size (.bool false) (.int .u64 0) (.int .u64 0) (.int .u64 0) (.int .u64 0) := Row5.keep hb (by repeat (first | (with_reducible exact Row5.new _ _ _ _ _ _) | ((with_reducible refine Row5.new' _ ?_ _ _ _ _ _); (simp; done)) | (with_reducible refine Row5.alloc ?_ _) | (with_reducible refine Row5.drew ?_)))
  clear hb
  go_wp2_with fail
  (with_reducible refine (K3.out _).mono ?_)
  rintro e w2 ⟨rfl, hb⟩
  have BW2 : Below w.heap.size w w2 := btr (by repeat (first | (with_reducible exact BW1) | (with_reducible refine bal ?_ _) | (with_reducible refine Below.drew ?_) | (with_reducible refine bdn ?_ _))) hb
  have R2 : Row5 w2 w.heap.size (.bool false) (.int .u64 0) (.int .u64 0) (.int .u64 0) (.int .u64 0) := Row5.keep hb (by repeat (first | (with_reducible exact R1) | (with_reducible refine Row5.alloc ?_ _) | (with_reducible refine Row5.drew ?_)))
  clear R1
  clear BW1
  clear hb
  go_upto_region 5 with (fail)
  go_name_world w3 hw3
  have BW3 : Below w.heap.size w w3 := by rw [← hw3]; repeat (first | (with_reducible exact BW2) | (with_reducible refine bal ?_ _) | (with_reducible refine Below.drew ?_) | (with_reducible refine bdn ?_ _))
  have R3 : Row5 w3 w.heap.size (.bool false) (.int .u64 0) (.int .u64 0) (.int .u64 0) (.int .u64 0) := by rw [← hw3]; exact (by repeat (first | (with_reducible exact R2) | (with_reducible refine Row5.alloc ?_ _) | (with_reducible refine Row5.drew ?_)))
  have apN_R := R2.lt
  have apN_0 := (BW2).size
  have N3 : Row4 w3 w2.heap.size (.int .u64 x0) (.int .u64 x1) (.int .u64 x2) (.int .u64 x3) := by rw [← hw3]; exact (by repeat (first | (with_reducible exact Row4.new _ _ _ _ _) | ((with_reducible refine Row4.new' _ ?_ _ _ _ _); (simp; done)) | (with_reducible refine Row4.alloc ?_ _) | (with_reducible refine Row4.drew ?_)))
  clear R2
  clear BW2
  clear hw3
  obtain ⟨Rc0, Rc1, Rc2, Rc3, Rc4⟩ := R3.parts
  obtain ⟨Rf0, Rf1, Rf2, Rf3, Rf4⟩ := R3.free
  obtain ⟨Nc0, Nc1, Nc2, Nc3⟩ := N3.four
  obtain ⟨Nf0, Nf1, Nf2, Nf3⟩ := N3.free4
  have lt_R := R3.lt
  have lt_N := N3.lt
  go_region_with (first | (go_at_call 147; refine (K4.out _).mono ?_; rintro e w9 ⟨rfl, hw⟩; rw [hw]; clear hw w9))
  all_goals
    go_wp2
    exact bodyPost_ret (v := .tuple #[.agg #[.bool false, .int .u64 x0, .int .u64 x1, .int .u64 x2, .int .u64 x3], .bool q]) (by simp [results, Tryz.results121, go_sem, Rc0, Rc1, Rc2, Rc3, Rc4]) rfl ⟨rfl, by repeat (first | (with_reducible exact BW3) | (with_reducible refine bal ?_ _) | (with_reducible refine Below.drew ?_) | (with_reducible refine bdn ?_ _) | ((with_reducible refine bsc ?_ ?_ _); rotate_left; (focus (simp only []; omega))))⟩

set_option maxHeartbeats 1000000 in
set_option maxRecDepth 100000 in
theorem whole_true (b d p x0 x1 x2 x3 : Int) (q : Bool)
    (k1 : ∀ W, Calls Tryz.prog 144 #[.int .u64 b] W fun e w' => e = .returned (.bool true) ∧ w' = W)
    (k2 : ∀ W, Tb W → Calls Tryz.prog 145 #[.int .u64 b] W fun e w' => e = .returned (.tuple #[.int .u64 d, .int .i64 p]) ∧ w' = W)
    (k3 : ∀ W, Calls Tryz.prog 146 #[.agg #[.int .u64 d, .int .u64 0, .int .u64 0, .int .u64 0], .int .i64 p] W fun e w' => e = .returned (.tuple #[.agg #[.int .u64 x0, .int .u64 x1, .int .u64 x2, .int .u64 x3], .bool q]) ∧ Below W.heap.size W w')
    (k4 : ∀ W, Calls Tryz.prog 147 #[.int .u64 b] W fun e w' => e = .returned (.bool true) ∧ w' = W) (w : World) (hT : Tb w) :
    Calls Tryz.prog 121 #[.int .u64 b] w fun e w' => e = .returned (.tuple #[.agg #[.bool (!eq4 x0 x1 x2 x3 0 0 0 0), .int .u64 x0, .int .u64 x1, .int .u64 x2, .int .u64 x3], .bool q]) ∧ Below w.heap.size w w' := by
  have K1 := Lib.hid k1; clear k1
  have K2 := Lib.hid k2; clear k2
  have K3 := Lib.hid k3; clear k3
  have K4 := Lib.hid k4; clear k4
  have HT := Lib.hid hT; clear hT
  go_enter Tryz.func121, Tryz.ntmps121
  go_wp2_with fail
  refine (K1.out _).mono ?_
  rintro e w1 ⟨rfl, hw⟩
  rw [hw]; clear hw w1
  go_wp2_with fail
  refine (K2.out _ (tb_on HT.out (by repeat (first | (with_reducible exact Below.refl _ _) | (with_reducible refine bal ?_ _) | (with_reducible refine Below.drew ?_) | (with_reducible refine bdn ?_ _))))).mono ?_
  rintro e w1 ⟨rfl, hw⟩
  rw [hw]; clear hw w1
  go_wp2_with fail
  (with_reducible refine (of_any _ _).mono ?_)
  rintro e w1 ⟨rfl, hb⟩
  have BW1 : Below w.heap.size w w1 := btr (by repeat (first | (with_reducible exact Below.refl _ _) | (with_reducible refine bal ?_ _) | (with_reducible refine Below.drew ?_) | (with_reducible refine bdn ?_ _))) hb
  have R1 : Row5 w1 w.heap.size (.bool false) (.int .u64 0) (.int .u64 0) (.int .u64 0) (.int .u64 0) := Row5.keep hb (by repeat (first | (with_reducible exact Row5.new _ _ _ _ _ _) | ((with_reducible refine Row5.new' _ ?_ _ _ _ _ _); (simp; done)) | (with_reducible refine Row5.alloc ?_ _) | (with_reducible refine Row5.drew ?_)))
  clear hb
  go_wp2_with fail
  (with_reducible refine (K3.out _).mono ?_)
  rintro e w2 ⟨rfl, hb⟩
  have BW2 : Below w.heap.size w w2 := btr (by repeat (first | (with_reducible exact BW1) | (with_reducible refine bal ?_ _) | (with_reducible refine Below.drew ?_) | (with_reducible refine bdn ?_ _))) hb
  have R2 : Row5 w2 w.heap.size (.bool false) (.int .u64 0) (.int .u64 0) (.int .u64 0) (.int .u64 0) := Row5.keep hb (by repeat (first | (with_reducible exact R1) | (with_reducible refine Row5.alloc ?_ _) | (with_reducible refine Row5.drew ?_)))
  clear R1
  clear BW1
  clear hb
  go_upto_region 5 with (fail)
  go_name_world w3 hw3
  have BW3 : Below w.heap.size w w3 := by rw [← hw3]; repeat (first | (with_reducible exact BW2) | (with_reducible refine bal ?_ _) | (with_reducible refine Below.drew ?_) | (with_reducible refine bdn ?_ _))
  have R3 : Row5 w3 w.heap.size (.bool false) (.int .u64 0) (.int .u64 0) (.int .u64 0) (.int .u64 0) := by rw [← hw3]; exact (by repeat (first | (with_reducible exact R2) | (with_reducible refine Row5.alloc ?_ _) | (with_reducible refine Row5.drew ?_)))
  have apN_R := R2.lt
  have apN_0 := (BW2).size
  have N3 : Row4 w3 w2.heap.size (.int .u64 x0) (.int .u64 x1) (.int .u64 x2) (.int .u64 x3) := by rw [← hw3]; exact (by repeat (first | (with_reducible exact Row4.new _ _ _ _ _) | ((with_reducible refine Row4.new' _ ?_ _ _ _ _); (simp; done)) | (with_reducible refine Row4.alloc ?_ _) | (with_reducible refine Row4.drew ?_)))
  clear R2
  clear BW2
  clear hw3
  obtain ⟨Rc0, Rc1, Rc2, Rc3, Rc4⟩ := R3.parts
  obtain ⟨Rf0, Rf1, Rf2, Rf3, Rf4⟩ := R3.free
  obtain ⟨Nc0, Nc1, Nc2, Nc3⟩ := N3.four
  obtain ⟨Nf0, Nf1, Nf2, Nf3⟩ := N3.free4
  have lt_R := R3.lt
  have lt_N := N3.lt
  go_region_held3 (fun w' => w'.cell? ⟨w2.heap.size, 0, none⟩ = some (.int .u64 x0) ∧ w'.cell? ⟨w2.heap.size, 1, none⟩ = some (.int .u64 x1) ∧ w'.cell? ⟨w2.heap.size, 2, none⟩ = some (.int .u64 x2) ∧ w'.cell? ⟨w2.heap.size, 3, none⟩ = some (.int .u64 x3))
    ((refine Row4.four ?_; (repeat (first | (with_reducible assumption) | (with_reducible refine Row4.alloc ?_ _) | (with_reducible refine Row4.drew ?_) | ((with_reducible refine Row4.set ?_ ?_ _); rotate_left; (focus (omega))))); done))
    (first | (go_at_call 147; refine (K4.out _).mono ?_; rintro e w9 ⟨rfl, rfl⟩) | (go_at_call 55; refine (of_one _ _).mono ?_; rintro e w9 ⟨rfl, o1, rfl⟩))
  all_goals
    go_wp2
    have RE := Row5.alloc (Row5.set5 R3 (.bool (!eq4 x0 x1 x2 x3 0 0 0 0)) (.int .u64 x0) (.int .u64 x1) (.int .u64 x2) (.int .u64 x3)) o1
    obtain ⟨e0, e1, e2, e3, e4⟩ := RE.parts
    exact bodyPost_ret (v := .tuple #[.agg #[.bool (!eq4 x0 x1 x2 x3 0 0 0 0), .int .u64 x0, .int .u64 x1, .int .u64 x2, .int .u64 x3], .bool q]) (by simp [results, Tryz.results121, go_sem, e0, e1, e2, e3, e4]) rfl ⟨rfl, by repeat (first | (with_reducible exact BW3) | (with_reducible refine bal ?_ _) | (with_reducible refine Below.drew ?_) | (with_reducible refine bdn ?_ _) | ((with_reducible refine bsc ?_ ?_ _); rotate_left; (focus (simp only []; omega))))⟩

/-- What Whole answers. -/
def WEnd (b : Nat) : Value := match whl b with
  | some n => .tuple #[Iz (if sg b = 1 then -(n : Int) else n), .bool true]
  | none => .tuple #[Z5, .bool false]
theorem od_lt (b : Nat) : od b < 18446744073709551616 := by
  have := dg_lt b
  unfold od
  split
  · omega
  · exact Nat.lt_of_le_of_lt (Nat.div_le_self _ _) this
theorem whole_of (b : Nat) (hb : b < 18446744073709551616) (h : rg b < INF) (n : Nat) (q : Bool) (hn : n < 2 ^ 256)
    (hs : ∀ W, Calls Tryz.prog 146 #[N4 (od b), .int .i64 (pw b)] W fun e w' => e = .returned (.tuple #[N4 n, .bool q]) ∧ Below W.heap.size W w') (w : World) (hT : Tb w) :
    Calls Tryz.prog 121 #[.int .u64 b] w fun e w' => e = .returned (.tuple #[Iz (if sg b = 1 then -(n : Int) else n), .bool q]) ∧ Below w.heap.size w w' := by
  rw [N4_small _ (od_lt b)] at hs
  have h2 : sg b = 0 ∨ sg b = 1 := by unfold sg; omega
  rcases h2 with h2 | h2
  · rw [if_neg (by omega), Iz_nat]
    exact whole_false b _ _ _ _ _ _ q (fun W => isfin_yes b hb h W) (fun W hW => parts_any b hb W hW) hs (fun W => hsign_no b h2 W) w hT
  · rw [if_pos h2]
    refine (whole_true b _ _ _ _ _ _ q (fun W => isfin_yes b hb h W) (fun W hW => parts_any b hb W hW) hs (fun W => hsign_yes b h2 W) w hT).mono ?_
    rintro e w' ⟨rfl, hbw⟩
    refine ⟨?_, hbw⟩
    rw [zq n hn]
    by_cases h0 : n = 0
    · subst h0; rfl
    · rw [Iz_neg h0, decide_eq_false h0]; rfl
theorem whole_any (b : Nat) (hb : b < 18446744073709551616) (w : World) (hT : Tb w) :
    Calls Tryz.prog 121 #[.int .u64 b] w fun e w' => e = .returned (WEnd b) ∧ Below w.heap.size w w' := by
  have hp := pw_bound b
  have ho := od_lt b
  have N0 : N4 0 = .agg #[.int .u64 0, .int .u64 0, .int .u64 0, .int .u64 0] := N4_small _ (by decide)
  by_cases h : rg b < INF
  · have hno : ∀ (hs : ∀ W, Calls Tryz.prog 146 #[N4 (od b), .int .i64 (pw b)] W fun e w' => e = .returned (.tuple #[.agg #[.int .u64 0, .int .u64 0, .int .u64 0, .int .u64 0], .bool false]) ∧ Below W.heap.size W w') (_ : whl b = none),
        Calls Tryz.prog 121 #[.int .u64 b] w fun e w' => e = .returned (WEnd b) ∧ Below w.heap.size w w' := fun hs hw => by
      refine (whole_of b hb h 0 false (by decide) (fun W => by rw [N0]; exact hs W) w hT).mono ?_
      rintro e w' ⟨rfl, hbw⟩
      refine ⟨?_, hbw⟩
      unfold WEnd
      rw [hw]
      have e0 : (if sg b = 1 then -((0 : Nat) : Int) else ((0 : Nat) : Int)) = 0 := by split <;> rfl
      rw [e0, ← Iz_zero]
    by_cases h0 : 0 ≤ pw b
    · obtain ⟨k, hk⟩ := Int.eq_ofNat_of_zero_le h0
      by_cases hf : od b * 2 ^ k < 2 ^ 256
      · have hw : whl b = some (od b * 2 ^ k) := by
          unfold whl
          rw [hk, Int.toNat_natCast, if_pos ⟨h, by omega, hf⟩]
        unfold WEnd
        rw [hw]
        exact whole_of b hb h _ true hf (fun W => by rw [hk]; exact shl_ok _ k (by omega) hf W) w hT
      · refine hno (fun W => by rw [hk]; exact shl_no _ k (by omega) hf W) ?_
        unfold whl
        rw [hk, Int.toNat_natCast, if_neg (fun hh => hf hh.2.2)]
    · refine hno (fun W => ?_) ?_
      · exact shl_neg _ _ (by omega) W
      · unfold whl
        rw [if_neg (fun hh => h0 hh.2.1)]
  · have hw : whl b = none := by unfold whl; rw [if_neg (fun hh => h hh.1)]
    unfold WEnd
    rw [hw]
    exact whole_no b (fun W => isfin_no b hb h W) w
end Go.Proofs.YtfaaagmjmljhiaaGreatDoor
end
section
namespace Go.Proofs.YtfaaagmjmljhiaaGreatDoor
open Go.RowKit Go.Shelf Go.Sort
attribute [local go_sem ↓] eql_nat neq_nat eql_int5 neq_int5

set_option maxRecDepth 100000 in
theorem class_nan (b : Int) 
    (k1 : ∀ W, Calls Tryz.prog 87 #[.int .u64 b] W fun e w' => e = .returned (.bool true) ∧ w' = W) (w : World) :
    Calls Tryz.prog 78 #[.int .u64 b] w fun e w' => e = .returned (.int .i64 16) ∧ Below w.heap.size w w' := by
  have K1 := Lib.hid k1; clear k1
  go_enter Tryz.func78, Tryz.ntmps78
  go_wp2_with fail
  refine (K1.out _).mono ?_
  rintro e w1 ⟨rfl, hw⟩
  rw [hw]; clear hw w1
  go_wp2
  go_ret
  exact ⟨rfl, Below.refl _ _⟩

set_option maxRecDepth 100000 in
theorem class_inf (b : Int) (hb : (b == 9218868437227405312) = true)
    (k1 : ∀ W, Calls Tryz.prog 87 #[.int .u64 b] W fun e w' => e = .returned (.bool false) ∧ w' = W) (w : World) :
    Calls Tryz.prog 78 #[.int .u64 b] w fun e w' => e = .returned (.int .i64 4) ∧ Below w.heap.size w w' := by
  have K1 := Lib.hid k1; clear k1
  go_enter Tryz.func78, Tryz.ntmps78
  go_wp2_with fail
  refine (K1.out _).mono ?_
  rintro e w1 ⟨rfl, hw⟩
  rw [hw]; clear hw w1
  go_wp2
  go_ret
  exact ⟨rfl, Below.refl _ _⟩

set_option maxRecDepth 100000 in
theorem class_neg (b : Int) (ha : (b == 9218868437227405312) = false) (hb : (b == 18442240474082181120) = true)
    (k1 : ∀ W, Calls Tryz.prog 87 #[.int .u64 b] W fun e w' => e = .returned (.bool false) ∧ w' = W) (w : World) :
    Calls Tryz.prog 78 #[.int .u64 b] w fun e w' => e = .returned (.int .i64 8) ∧ Below w.heap.size w w' := by
  have K1 := Lib.hid k1; clear k1
  go_enter Tryz.func78, Tryz.ntmps78
  go_wp2_with fail
  refine (K1.out _).mono ?_
  rintro e w1 ⟨rfl, hw⟩
  rw [hw]; clear hw w1
  go_wp2
  go_ret
  exact ⟨rfl, Below.refl _ _⟩

set_option maxRecDepth 100000 in
theorem class_whole (b : Int) (ha : (b == 9218868437227405312) = false) (hb : (b == 18442240474082181120) = false) (g : Bool) (x0 x1 x2 x3 : Int)
    (k1 : ∀ W, Calls Tryz.prog 87 #[.int .u64 b] W fun e w' => e = .returned (.bool false) ∧ w' = W)
    (k2 : ∀ W, Tb W → Calls Tryz.prog 121 #[.int .u64 b] W fun e w' => e = .returned (.tuple #[.agg #[.bool g, .int .u64 x0, .int .u64 x1, .int .u64 x2, .int .u64 x3], .bool true]) ∧ Below W.heap.size W w') (w : World) (hT : Tb w) :
    Calls Tryz.prog 78 #[.int .u64 b] w fun e w' => e = .returned (.int .i64 0) ∧ Below w.heap.size w w' := by
  have K1 := Lib.hid k1; clear k1
  have K2 := Lib.hid k2; clear k2
  have HT := Lib.hid hT; clear hT
  go_enter Tryz.func78, Tryz.ntmps78
  go_wp2_with fail
  refine (K1.out _).mono ?_
  rintro e w1 ⟨rfl, hw⟩
  rw [hw]; clear hw w1
  go_wp2_with fail
  refine (K2.out _ (tb_on HT.out (by repeat (first | (with_reducible exact Below.refl _ _) | (with_reducible refine bal ?_ _) | (with_reducible refine Below.drew ?_) | (with_reducible refine bdn ?_ _))))).mono ?_
  rintro e w2 ⟨rfl, hb⟩
  have BW : Below w.heap.size w w2 := btr (by repeat (first | (with_reducible exact Below.refl _ _) | (with_reducible refine bal ?_ _) | (with_reducible refine Below.drew ?_) | (with_reducible refine bdn ?_ _))) hb
  clear hb
  go_wp2
  go_ret
  exact ⟨rfl, by repeat (first | (with_reducible exact BW) | (with_reducible refine bal ?_ _) | (with_reducible refine Below.drew ?_) | (with_reducible refine bdn ?_ _))⟩

set_option maxRecDepth 100000 in
theorem class_fine0 (b : Int) (ha : (b == 9218868437227405312) = false) (hb : (b == 18442240474082181120) = false) (g : Bool) (x0 x1 x2 x3 : Int) (k : Int) (h0 : (k == 0) = true)
    (k1 : ∀ W, Calls Tryz.prog 87 #[.int .u64 b] W fun e w' => e = .returned (.bool false) ∧ w' = W)
    (k2 : ∀ W, Tb W → Calls Tryz.prog 121 #[.int .u64 b] W fun e w' => e = .returned (.tuple #[.agg #[.bool g, .int .u64 x0, .int .u64 x1, .int .u64 x2, .int .u64 x3], .bool false]) ∧ Below W.heap.size W w')
    (k3 : ∀ W, Tb W → Calls Tryz.prog 122 #[.int .u64 b] W fun e w' => e = .returned (.int .i64 k) ∧ w' = W) (w : World) (hT : Tb w) :
    Calls Tryz.prog 78 #[.int .u64 b] w fun e w' => e = .returned (.int .i64 2) ∧ Below w.heap.size w w' := by
  have K1 := Lib.hid k1; clear k1
  have K2 := Lib.hid k2; clear k2
  have K3 := Lib.hid k3; clear k3
  have HT := Lib.hid hT; clear hT
  go_enter Tryz.func78, Tryz.ntmps78
  go_wp2_with fail
  refine (K1.out _).mono ?_
  rintro e w1 ⟨rfl, hw⟩
  rw [hw]; clear hw w1
  go_wp2_with fail
  refine (K2.out _ (tb_on HT.out (by repeat (first | (with_reducible exact Below.refl _ _) | (with_reducible refine bal ?_ _) | (with_reducible refine Below.drew ?_) | (with_reducible refine bdn ?_ _))))).mono ?_
  rintro e w2 ⟨rfl, hb⟩
  have BW : Below w.heap.size w w2 := btr (by repeat (first | (with_reducible exact Below.refl _ _) | (with_reducible refine bal ?_ _) | (with_reducible refine Below.drew ?_) | (with_reducible refine bdn ?_ _))) hb
  clear hb
  go_wp2_with fail
  refine (K3.out _ (tb_on HT.out (by repeat (first | (with_reducible exact BW) | (with_reducible refine bal ?_ _) | (with_reducible refine Below.drew ?_) | (with_reducible refine bdn ?_ _))))).mono ?_
  rintro e w3 ⟨rfl, hw⟩
  rw [hw]; clear hw w3
  go_wp2
  all_goals
    go_ret
    exact ⟨rfl, by repeat (first | (with_reducible exact BW) | (with_reducible refine bal ?_ _) | (with_reducible refine Below.drew ?_) | (with_reducible refine bdn ?_ _))⟩

set_option maxRecDepth 100000 in
theorem class_fine (b : Int) (ha : (b == 9218868437227405312) = false) (hb : (b == 18442240474082181120) = false) (g : Bool) (x0 x1 x2 x3 : Int) (k : Int) (h0 : (k == 0) = false) (h1 : 64 < k)
    (k1 : ∀ W, Calls Tryz.prog 87 #[.int .u64 b] W fun e w' => e = .returned (.bool false) ∧ w' = W)
    (k2 : ∀ W, Tb W → Calls Tryz.prog 121 #[.int .u64 b] W fun e w' => e = .returned (.tuple #[.agg #[.bool g, .int .u64 x0, .int .u64 x1, .int .u64 x2, .int .u64 x3], .bool false]) ∧ Below W.heap.size W w')
    (k3 : ∀ W, Tb W → Calls Tryz.prog 122 #[.int .u64 b] W fun e w' => e = .returned (.int .i64 k) ∧ w' = W) (w : World) (hT : Tb w) :
    Calls Tryz.prog 78 #[.int .u64 b] w fun e w' => e = .returned (.int .i64 2) ∧ Below w.heap.size w w' := by
  have K1 := Lib.hid k1; clear k1
  have K2 := Lib.hid k2; clear k2
  have K3 := Lib.hid k3; clear k3
  have HT := Lib.hid hT; clear hT
  go_enter Tryz.func78, Tryz.ntmps78
  go_wp2_with fail
  refine (K1.out _).mono ?_
  rintro e w1 ⟨rfl, hw⟩
  rw [hw]; clear hw w1
  go_wp2_with fail
  refine (K2.out _ (tb_on HT.out (by repeat (first | (with_reducible exact Below.refl _ _) | (with_reducible refine bal ?_ _) | (with_reducible refine Below.drew ?_) | (with_reducible refine bdn ?_ _))))).mono ?_
  rintro e w2 ⟨rfl, hb⟩
  have BW : Below w.heap.size w w2 := btr (by repeat (first | (with_reducible exact Below.refl _ _) | (with_reducible refine bal ?_ _) | (with_reducible refine Below.drew ?_) | (with_reducible refine bdn ?_ _))) hb
  clear hb
  go_wp2_with fail
  refine (K3.out _ (tb_on HT.out (by repeat (first | (with_reducible exact BW) | (with_reducible refine bal ?_ _) | (with_reducible refine Below.drew ?_) | (with_reducible refine bdn ?_ _))))).mono ?_
  rintro e w3 ⟨rfl, hw⟩
  rw [hw]; clear hw w3
  go_wp2
  all_goals
    go_ret
    exact ⟨rfl, by repeat (first | (with_reducible exact BW) | (with_reducible refine bal ?_ _) | (with_reducible refine Below.drew ?_) | (with_reducible refine bdn ?_ _))⟩

set_option maxRecDepth 100000 in
theorem class_plain (b : Int) (ha : (b == 9218868437227405312) = false) (hb : (b == 18442240474082181120) = false) (g : Bool) (x0 x1 x2 x3 : Int) (k : Int) (h0 : (k == 0) = false) (h1 : k ≤ 64)
    (k1 : ∀ W, Calls Tryz.prog 87 #[.int .u64 b] W fun e w' => e = .returned (.bool false) ∧ w' = W)
    (k2 : ∀ W, Tb W → Calls Tryz.prog 121 #[.int .u64 b] W fun e w' => e = .returned (.tuple #[.agg #[.bool g, .int .u64 x0, .int .u64 x1, .int .u64 x2, .int .u64 x3], .bool false]) ∧ Below W.heap.size W w')
    (k3 : ∀ W, Tb W → Calls Tryz.prog 122 #[.int .u64 b] W fun e w' => e = .returned (.int .i64 k) ∧ w' = W) (w : World) (hT : Tb w) :
    Calls Tryz.prog 78 #[.int .u64 b] w fun e w' => e = .returned (.int .i64 1) ∧ Below w.heap.size w w' := by
  have K1 := Lib.hid k1; clear k1
  have K2 := Lib.hid k2; clear k2
  have K3 := Lib.hid k3; clear k3
  have HT := Lib.hid hT; clear hT
  go_enter Tryz.func78, Tryz.ntmps78
  go_wp2_with fail
  refine (K1.out _).mono ?_
  rintro e w1 ⟨rfl, hw⟩
  rw [hw]; clear hw w1
  go_wp2_with fail
  refine (K2.out _ (tb_on HT.out (by repeat (first | (with_reducible exact Below.refl _ _) | (with_reducible refine bal ?_ _) | (with_reducible refine Below.drew ?_) | (with_reducible refine bdn ?_ _))))).mono ?_
  rintro e w2 ⟨rfl, hb⟩
  have BW : Below w.heap.size w w2 := btr (by repeat (first | (with_reducible exact Below.refl _ _) | (with_reducible refine bal ?_ _) | (with_reducible refine Below.drew ?_) | (with_reducible refine bdn ?_ _))) hb
  clear hb
  go_wp2_with fail
  refine (K3.out _ (tb_on HT.out (by repeat (first | (with_reducible exact BW) | (with_reducible refine bal ?_ _) | (with_reducible refine Below.drew ?_) | (with_reducible refine bdn ?_ _))))).mono ?_
  rintro e w3 ⟨rfl, hw⟩
  rw [hw]; clear hw w3
  go_wp2
  all_goals
    go_ret
    exact ⟨rfl, by repeat (first | (with_reducible exact BW) | (with_reducible refine bal ?_ _) | (with_reducible refine Below.drew ?_) | (with_reducible refine bdn ?_ _))⟩

theorem calls_below {f : FuncId} {args : Array Value} {w : World} {r : Ending} (h : Calls Tryz.prog f args w fun e w' => e = r ∧ w' = w) : Calls Tryz.prog f args w fun e w' => e = r ∧ Below w.heap.size w w' :=
  h.mono fun _ _ ⟨he, hw⟩ => ⟨he, by rw [hw]; exact Below.refl _ _⟩
theorem class_any (b : Nat) (hb : b < 18446744073709551616) (w : World) (hT : Tb w) :
    Calls Tryz.prog 78 #[.int .u64 b] w fun e w' => e = .returned (.int .i64 (cls b : Nat)) ∧ Below w.heap.size w w' := by
  have h5 : INF = 9218868437227405312 := rfl
  have hw := word_of b
  have h2 : sg b = 0 ∨ sg b = 1 := by unfold sg; omega
  unfold cls
  by_cases h : INF < rg b
  · rw [if_pos h]
    exact class_nan b (fun W => isnan_yes b hb h W) w
  rw [if_neg h]
  have k1 := fun W => isnan_no b hb h W
  by_cases hi : rg b = INF
  · rw [if_pos hi]
    rcases h2 with h2 | h2
    · rw [if_pos h2]
      exact class_inf b (by rw [beq_iff_eq]; omega) k1 w
    · rw [if_neg (by omega)]
      exact class_neg b (by rw [beq_eq_false_iff_ne]; omega) (by rw [beq_iff_eq]; omega) k1 w
  rw [if_neg hi]
  have ha : ((b : Int) == 9218868437227405312) = false := by rw [beq_eq_false_iff_ne]; intro h3; apply hi; unfold rg; omega
  have hc : ((b : Int) == 18442240474082181120) = false := by rw [beq_eq_false_iff_ne]; intro h3; apply hi; unfold rg; omega
  have hwh := fun W hW => whole_any b hb W hW
  have hbe := fun W hW => behind_any b hb W hW
  unfold WEnd at hwh
  cases hq : whl b with
  | some n =>
    simp only [hq] at hwh
    rw [Option.isSome_some, if_pos rfl]
    exact class_whole b ha hc _ _ _ _ _ k1 hwh w hT
  | none =>
    simp only [hq] at hwh
    rw [Option.isSome_none, if_neg (by decide)]
    by_cases z : beh b = 0
    · rw [if_pos (.inl z)]
      exact class_fine0 b ha hc _ _ _ _ _ _ (by rw [beq_iff_eq]; omega) k1 hwh hbe w hT
    · by_cases z2 : 64 < beh b
      · rw [if_pos (.inr z2)]
        exact class_fine b ha hc _ _ _ _ _ _ (by rw [beq_eq_false_iff_ne]; omega) (show (64 : Int) < ((beh b : Nat) : Int) by omega) k1 hwh hbe w hT
      · rw [if_neg (fun hh => hh.elim z z2)]
        exact class_plain b ha hc _ _ _ _ _ _ (by rw [beq_eq_false_iff_ne]; omega) (show ((beh b : Nat) : Int) ≤ 64 by omega) k1 hwh hbe w hT

theorem may_zero (b : Int) 
    (k1 : ∀ W, Tb W → Calls Tryz.prog 78 #[.int .u64 b] W fun e w' => e = .returned (.int .i64 0) ∧ Below W.heap.size W w') (w : World) (hT : Tb w) :
    Calls Tryz.prog 49 #[.int .u64 b] w fun e w' => e = .returned (.bool false) ∧ Below w.heap.size w w' := by
  have K1 := Lib.hid k1; clear k1
  have HT := Lib.hid hT; clear hT
  go_enter Tryz.func49, Tryz.ntmps49
  go_wp2_with fail
  refine (K1.out _ HT.out).mono ?_
  rintro e w2 ⟨rfl, hb⟩
  have BW : Below w.heap.size w w2 := btr (by repeat (first | (with_reducible exact Below.refl _ _) | (with_reducible refine bal ?_ _) | (with_reducible refine Below.drew ?_) | (with_reducible refine bdn ?_ _))) hb
  clear hb
  go_wp2
  go_ret
  exact ⟨rfl, by repeat (first | (with_reducible exact BW) | (with_reducible refine bal ?_ _) | (with_reducible refine Below.drew ?_) | (with_reducible refine bdn ?_ _))⟩

theorem may_some (b : Int) (k d : Int) (h1 : (k != 0) = true)
    (k1 : ∀ W, Tb W → Calls Tryz.prog 78 #[.int .u64 b] W fun e w' => e = .returned (.int .i64 k) ∧ Below W.heap.size W w')
    (k2 : ∀ W, Calls Tryz.prog 79 #[.int .u64 b] W fun e w' => e = .returned (.int .u64 d) ∧ w' = W) (w : World) (hT : Tb w) :
    Calls Tryz.prog 49 #[.int .u64 b] w fun e w' => e = .returned (.bool (d == b)) ∧ Below w.heap.size w w' := by
  have K1 := Lib.hid k1; clear k1
  have K2 := Lib.hid k2; clear k2
  have HT := Lib.hid hT; clear hT
  go_enter Tryz.func49, Tryz.ntmps49
  go_wp2_with fail
  refine (K1.out _ HT.out).mono ?_
  rintro e w2 ⟨rfl, hb⟩
  have BW : Below w.heap.size w w2 := btr (by repeat (first | (with_reducible exact Below.refl _ _) | (with_reducible refine bal ?_ _) | (with_reducible refine Below.drew ?_) | (with_reducible refine bdn ?_ _))) hb
  clear hb
  go_wp2_with fail
  refine (K2.out _).mono ?_
  rintro e w3 ⟨rfl, hw⟩
  rw [hw]; clear hw w3
  go_wp2
  go_ret
  exact ⟨rfl, by repeat (first | (with_reducible exact BW) | (with_reducible refine bal ?_ _) | (with_reducible refine Below.drew ?_) | (with_reducible refine bdn ?_ _))⟩

/-- What May answers. -/
def mayF (b : Nat) : Bool := cls b != 0 && can b == b
theorem fmay_any (b : Nat) (hb : b < 18446744073709551616) (w : World) (hT : Tb w) :
    Calls Tryz.prog 49 #[.int .u64 b] w fun e w' => e = .returned (.bool (mayF b)) ∧ Below w.heap.size w w' := by
  have hc := fun W hW => class_any b hb W hW
  have hd := fun W => canon_any b hb W
  unfold mayF
  by_cases h : cls b = 0
  · rw [h] at hc
    rw [h]
    exact may_zero b hc w hT
  · have e : (cls b != 0 && can b == b) = (((can b : Nat) : Int) == (b : Int)) := by
      rw [Bool.eq_iff_iff, Bool.and_eq_true, bne_iff_ne, beq_iff_eq, beq_iff_eq]
      omega
    rw [e]
    exact may_some b _ _ (by rw [bne_iff_ne]; omega) hc hd w hT
end Go.Proofs.YtfaaagmjmljhiaaGreatDoor
end
