/-
  Floats of 64, 32 and 16 bits as words: what package float answers, as functions of words; plain arithmetic, no Go. For every word of its width.
-/
import Derived.Test.YtoibaeilbolffaaGreatDoorFltNear
namespace Go.Proofs.YtoibaeilbolffaaGreatDoor
open Ieee

abbrev INF : Nat := 9218868437227405312
abbrev NANW : Nat := 9221120237041090560
/-- A word without its sign; its sign. -/
def rg (b : Nat) : Nat := b % 9223372036854775808
def sg (b : Nat) : Nat := b / 9223372036854775808
theorem dbl_binade : double.binade = 4503599627370496 := by decide
theorem dbl_inf : double.infRung = 9218868437227405312 := by decide
theorem dbl_sign : double.signWeight = 9223372036854775808 := by decide
theorem dbl_least : double.leastPlace = -1074 := by decide
theorem sgl_binade : single.binade = 8388608 := by decide
theorem sgl_inf : single.infRung = 2139095040 := by decide
theorem sgl_sign : single.signWeight = 2147483648 := by decide
theorem sgl_least : single.leastPlace = -149 := by decide
theorem dbl_word (neg : Bool) (r : Nat) : double.word neg r = neg.toNat * 9223372036854775808 + r := by
  cases neg <;> simp [Format.word, dbl_sign]
theorem sgl_word (neg : Bool) (r : Nat) : single.word neg r = neg.toNat * 2147483648 + r := by
  cases neg <;> simp [Format.word, sgl_sign]

/-- Digits by a power of two, as a rung of 64 bits; of 32. -/
def nr (d : Nat) (p : Int) : Nat := (p + (d.log2 : Nat) + 1022).toNat * 4503599627370496 + d * 2 ^ (52 - d.log2)
def ns (d : Nat) (p : Int) : Nat := (p + (d.log2 : Nat) + 126).toNat * 8388608 + d * 2 ^ (23 - d.log2)
theorem top_bounds {d n : Nat} (h : d ≠ 0) (hl : d.log2 ≤ n) : 2 ^ n ≤ d * 2 ^ (n - d.log2) ∧ d * 2 ^ (n - d.log2) < 2 ^ (n + 1) := by
  have a := Nat.log2_self_le h
  have b := Nat.lt_log2_self (n := d)
  constructor
  · have := Nat.mul_le_mul_right (2 ^ (n - d.log2)) a
    rw [← Nat.pow_add, show d.log2 + (n - d.log2) = n from by omega] at this
    exact this
  · have := Nat.mul_lt_mul_of_pos_right b (Nat.two_pow_pos (n - d.log2))
    rw [← Nat.pow_add, show d.log2 + 1 + (n - d.log2) = n + 1 from by omega] at this
    exact this
theorem nr_spec {d : Nat} {p : Int} (h : d ≠ 0) (hl : d.log2 ≤ 52) (h0 : -1022 ≤ p + (d.log2 : Nat)) (h1 : p + (d.log2 : Nat) ≤ 1023) :
    nr d p < INF ∧ mg double (nr d p) = d * 2 ^ (52 - d.log2) ∧ pl double (nr d p) = p - (52 - d.log2 : Nat) ∧ 4503599627370496 ≤ nr d p ∧ nr d p / 4503599627370496 = (p + (d.log2 : Nat) + 1023).toNat := by
  have hb := top_bounds h hl
  unfold mg pl nr
  rw [dbl_binade, dbl_least]
  generalize d * 2 ^ (52 - d.log2) = M at *
  rw [show (2 : Nat) ^ 52 = 4503599627370496 from by decide, show (2 : Nat) ^ (52 + 1) = 9007199254740992 from by decide] at hb
  obtain ⟨j, hj⟩ : ∃ j : Nat, (p + (d.log2 : Nat) + 1022).toNat = j := ⟨_, rfl⟩
  rw [hj]
  have e1 : ¬ (j * 4503599627370496 + M < 4503599627370496) := by omega
  have e2 : (j * 4503599627370496 + M) / 4503599627370496 = j + 1 := by omega
  rw [if_neg e1, if_neg e1, e2]
  refine ⟨by show _ < 9218868437227405312; omega, by omega, by omega, by omega, by omega⟩
theorem ns_spec {d : Nat} {p : Int} (h : d ≠ 0) (hl : d.log2 ≤ 23) (h0 : -126 ≤ p + (d.log2 : Nat)) (h1 : p + (d.log2 : Nat) ≤ 127) :
    ns d p < 2139095040 ∧ mg single (ns d p) = d * 2 ^ (23 - d.log2) ∧ pl single (ns d p) = p - (23 - d.log2 : Nat) ∧ ns d p ≠ 0 := by
  have hb := top_bounds h hl
  unfold mg pl ns
  rw [sgl_binade, sgl_least]
  generalize d * 2 ^ (23 - d.log2) = M at *
  rw [show (2 : Nat) ^ 23 = 8388608 from by decide, show (2 : Nat) ^ (23 + 1) = 16777216 from by decide] at hb
  obtain ⟨j, hj⟩ : ∃ j : Nat, (p + (d.log2 : Nat) + 126).toNat = j := ⟨_, rfl⟩
  rw [hj]
  have e1 : ¬ (j * 8388608 + M < 8388608) := by omega
  have e2 : (j * 8388608 + M) / 8388608 = j + 1 := by omega
  rw [if_neg e1, if_neg e1, e2]
  refine ⟨by omega, by omega, by omega, by omega⟩
theorem near_dbl (neg : Bool) {d : Nat} {p : Int} (h : d ≠ 0) (hl : d.log2 ≤ 52) (h0 : -1022 ≤ p + (d.log2 : Nat)) (h1 : p + (d.log2 : Nat) ≤ 1023) :
    double.nearest neg d p = neg.toNat * 9223372036854775808 + nr d p := by
  obtain ⟨a, b, c, _⟩ := nr_spec h hl h0 h1
  rw [near_of' double neg (nr d p) d p (52 - d.log2) (by rw [dbl_inf]; exact a) b.symm c.symm, dbl_word]
/-- The same number in a format: of a rung of 64 bits that is digits by a power of two, too. -/
theorem near_nr (f : Format) (neg : Bool) {d : Nat} {p : Int} (h : d ≠ 0) (hl : d.log2 ≤ 52) (h0 : -1022 ≤ p + (d.log2 : Nat)) (h1 : p + (d.log2 : Nat) ≤ 1023) :
    f.nearest neg (mg double (nr d p)) (pl double (nr d p)) = f.nearest neg d p := by
  obtain ⟨_, b, c, _⟩ := nr_spec h hl h0 h1
  rw [b, c, near_scale]
theorem nr_scale {d : Nat} {p : Int} (k : Nat) (h : d ≠ 0) (hl : d.log2 + k ≤ 52) : nr (d * 2 ^ k) (p - k) = nr d p := by
  unfold nr
  rw [lg_mul d k h]
  have e1 : (p - (k : Int) + ((d.log2 + k : Nat) : Int) + 1022) = p + (d.log2 : Nat) + 1022 := by omega
  have e2 : d * 2 ^ k * 2 ^ (52 - (d.log2 + k)) = d * 2 ^ (52 - d.log2) := by
    rw [Nat.mul_assoc, ← Nat.pow_add, show k + (52 - (d.log2 + k)) = 52 - d.log2 from by omega]
  rw [e1, e2]

/-- A half in 64 bits. -/
def hlf (h : Nat) : Nat :=
  if 31744 < h % 32768 then NANW else
  h / 32768 * 9223372036854775808 + (if h % 32768 = 31744 then INF else if h % 32768 < 1024 then (if h % 32768 = 0 then 0 else nr (h % 32768) (-24)) else h % 32768 * 4398046511104 + 4539628424389459968)
/-- A single in 64 bits. -/
def sng (s : Nat) : Nat :=
  if 2139095040 < s % 2147483648 then NANW else
  s / 2147483648 * 9223372036854775808 + (if s % 2147483648 = 2139095040 then INF else if s % 2147483648 = 0 then 0 else nr (mg single (s % 2147483648)) (pl single (s % 2147483648)))
/-- The nearest single's word. -/
def tosr (b : Nat) : Nat := sg b * 2147483648 + single.nearest false (mg double (rg b)) (pl double (rg b))
def tos (b : Nat) : Nat × Bool :=
  if INF < rg b then (2143289344, true) else if rg b = INF then (sg b * 2147483648 + 2139095040, true) else if sng (tosr b) = b then (tosr b, true) else (0, false)
/-- What is left of a float's digits where a half has no room. -/
def cuth (b : Nat) : Nat :=
  b / 9223372036854775808 * 32768 + (if 1039 ≤ b / 4503599627370496 % 2048 then 31744 else if 1008 < b / 4503599627370496 % 2048 then (b / 4503599627370496 % 2048 - 1008) * 1024 + b % 4503599627370496 / 4398046511104 else (4503599627370496 + b % 4503599627370496) / 2 ^ (1051 - b / 4503599627370496 % 2048))
def toh (b : Nat) : Nat × Bool := if INF < rg b then (32256, true) else if hlf (cuth b) = b then (cuth b, true) else (0, false)

theorem hlf_norm {r : Nat} (h0 : 1024 ≤ r) (h1 : r < 31744) : nr (1024 + r % 1024) ((r / 1024 : Nat) - 25 : Int) = r * 4398046511104 + 4539628424389459968 := by
  have hl : (1024 + r % 1024).log2 = 10 := lg_unique (by omega) (by omega)
  unfold nr
  rw [hl]
  have e : (((r / 1024 : Nat) : Int) - 25 + ((10 : Nat) : Int) + 1022).toNat = r / 1024 + 1007 := by omega
  rw [e]
  omega
theorem lg_small {d n : Nat} (h : d ≠ 0) (hd : d < 2 ^ n) : d.log2 < n := (Nat.log2_lt h).2 hd
theorem single_parts {r : Nat} (h0 : r ≠ 0) (h1 : r < 2139095040) : mg single r ≠ 0 ∧ (mg single r).log2 ≤ 23 ∧ -149 ≤ pl single r + ((mg single r).log2 : Nat) ∧ pl single r + ((mg single r).log2 : Nat) ≤ 127 := by
  unfold mg pl
  rw [sgl_binade, sgl_least]
  by_cases h : r < 8388608
  · rw [if_pos h, if_pos h]
    have := lg_small (n := 23) h0 h
    exact ⟨h0, by omega, by omega, by omega⟩
  · rw [if_neg h, if_neg h]
    have hl : (8388608 + r % 8388608).log2 = 23 := lg_unique (by omega) (by omega)
    rw [hl]
    exact ⟨by omega, by omega, by omega, by omega⟩
theorem word_parts {n r : Nat} (hr : r < 9223372036854775808) : rg (n * 9223372036854775808 + r) = r ∧ sg (n * 9223372036854775808 + r) = n := by
  unfold rg sg; omega
theorem sgn_or {n : Nat} (h : n < 2) : n = (n == 1).toNat := by
  have : n = 0 ∨ n = 1 := by omega
  rcases this with rfl | rfl <;> rfl
theorem near_sign (f : Format) (neg : Bool) (m : Nat) (p : Int) : f.nearest neg m p = neg.toNat * f.signWeight + f.nearest false m p := by
  unfold Format.nearest Format.word Toward.cut
  cases neg <;> by_cases h : m = 0 <;> simp [h]
/-- A single comes back. -/
theorem sng_back {s : Nat} (_hs : s < 4294967296) (hn : s % 2147483648 ≤ 2139095040) : tos (sng s) = (s, true) := by
  have e0 : ¬ (2139095040 < s % 2147483648) := by omega
  by_cases hi : s % 2147483648 = 2139095040
  · have e : sng s = s / 2147483648 * 9223372036854775808 + INF := by unfold sng; rw [if_neg e0, if_pos hi]
    obtain ⟨p1, p2⟩ := word_parts (n := s / 2147483648) (r := INF) (by decide)
    rw [e]
    unfold tos
    rw [p1, p2, if_neg (by omega), if_pos rfl]
    have : s / 2147483648 * 2147483648 + 2139095040 = s := by omega
    rw [this]
  · obtain ⟨ρ, hρ, e, hback⟩ : ∃ ρ, ρ < INF ∧ sng s = s / 2147483648 * 9223372036854775808 + ρ ∧ single.nearest false (mg double ρ) (pl double ρ) = s % 2147483648 := by
      by_cases hz : s % 2147483648 = 0
      · refine ⟨0, by decide, by unfold sng; rw [if_neg e0, if_neg hi, if_pos hz], ?_⟩
        rw [show mg double 0 = 0 from by decide, near_zero, hz]; rfl
      · obtain ⟨a, b, c, d⟩ := single_parts hz (by omega)
        refine ⟨nr (mg single (s % 2147483648)) (pl single (s % 2147483648)), (nr_spec a (by omega) (by omega) (by omega)).1, by unfold sng; rw [if_neg e0, if_neg hi, if_neg hz], ?_⟩
        rw [near_nr single false a (by omega) (by omega) (by omega), near_rung single false _ (by rw [sgl_inf]; omega)]
        rfl
    have hρ' : ρ < 9223372036854775808 := Nat.lt_trans hρ (by decide)
    obtain ⟨p1, p2⟩ := word_parts (n := s / 2147483648) hρ'
    have ht : tosr (sng s) = s := by
      unfold tosr
      rw [e, p1, p2, hback]; omega
    unfold tos
    rw [ht, if_pos rfl, e, p1, if_neg (by omega), if_neg (by omega)]
theorem tos_nan {b : Nat} (h : INF < rg b) : tos b = (2143289344, true) := by unfold tos; rw [if_pos h]
theorem toh_nan {b : Nat} (h : INF < rg b) : toh b = (32256, true) := by unfold toh; rw [if_pos h]
theorem sng_nan {s : Nat} (h : 2139095040 < s % 2147483648) : sng s = NANW := by unfold sng; rw [if_pos h]
theorem hlf_nan {h : Nat} (k : 31744 < h % 32768) : hlf h = NANW := by unfold hlf; rw [if_pos k]
theorem nan_rg : INF < rg NANW := by decide
/-- A half comes back. -/
theorem hlf_cut {h : Nat} (_hh : h < 65536) (hn : h % 32768 ≤ 31744) : cuth (hlf h) = h ∧ rg (hlf h) ≤ INF := by
  have e0 : ¬ (31744 < h % 32768) := by omega
  unfold hlf
  rw [if_neg e0]
  by_cases hi : h % 32768 = 31744
  · rw [if_pos hi, show INF = 9218868437227405312 from rfl]
    unfold cuth rg
    have e1 : (h / 32768 * 9223372036854775808 + 9218868437227405312) / 4503599627370496 % 2048 = 2047 := by omega
    rw [e1, if_pos (by decide)]
    omega
  · rw [if_neg hi]
    by_cases hs : h % 32768 < 1024
    · rw [if_pos hs]
      by_cases hz : h % 32768 = 0
      · rw [if_pos hz]
        unfold cuth rg
        have e1 : (h / 32768 * 9223372036854775808 + 0) / 4503599627370496 % 2048 = 0 := by omega
        have e2 : (h / 32768 * 9223372036854775808 + 0) % 4503599627370496 = 0 := by omega
        rw [e1, e2, if_neg (by omega), if_neg (by omega)]
        have e3 : (4503599627370496 + 0) / 2 ^ (1051 - 0) = 0 := by decide +kernel
        rw [e3]; omega
      · rw [if_neg hz]
        have hl : (h % 32768).log2 < 10 := lg_small hz hs
        obtain ⟨a, b, c, d, e⟩ := nr_spec (d := h % 32768) (p := -24) hz (by omega) (by omega) (by omega)
        have hb := top_bounds (n := 52) hz (by omega)
        generalize hd : h % 32768 = D at *
        have en : nr D (-24) = (D.log2 + 998) * 4503599627370496 + D * 2 ^ (52 - D.log2) := by
          unfold nr
          rw [show ((-24 : Int) + ((D.log2 : Nat) : Int) + 1022).toNat = D.log2 + 998 from by omega]
        rw [show (2 : Nat) ^ 52 = 4503599627370496 from by decide, show (2 : Nat) ^ (52 + 1) = 9007199254740992 from by decide] at hb
        unfold cuth rg
        rw [en]
        generalize hl2 : D.log2 = l at *
        generalize hM : D * 2 ^ (52 - l) = M at *
        have e1 : (h / 32768 * 9223372036854775808 + ((l + 998) * 4503599627370496 + M)) / 4503599627370496 % 2048 = l + 999 := by omega
        have e2 : 4503599627370496 + (h / 32768 * 9223372036854775808 + ((l + 998) * 4503599627370496 + M)) % 4503599627370496 = M := by omega
        have e3 : (h / 32768 * 9223372036854775808 + ((l + 998) * 4503599627370496 + M)) / 9223372036854775808 = h / 32768 := by omega
        rw [e1, e2, e3, if_neg (by omega), if_neg (by omega), show 1051 - (l + 999) = 52 - l from by omega, ← hM, Nat.mul_div_cancel _ (Nat.two_pow_pos _), hM]
        constructor
        · omega
        · show _ ≤ 9218868437227405312; omega
    · rw [if_neg hs]
      have e1 : (h / 32768 * 9223372036854775808 + (h % 32768 * 4398046511104 + 4539628424389459968)) / 4503599627370496 % 2048 = h % 32768 / 1024 + 1008 := by omega
      have e2 : (h / 32768 * 9223372036854775808 + (h % 32768 * 4398046511104 + 4539628424389459968)) % 4503599627370496 = h % 1024 * 4398046511104 := by omega
      unfold cuth rg
      rw [e1, e2, if_neg (by omega), if_pos (by omega)]
      constructor
      · omega
      · show _ ≤ 9218868437227405312; omega
theorem hlf_back {h : Nat} (hh : h < 65536) (hn : h % 32768 ≤ 31744) : toh (hlf h) = (h, true) := by
  obtain ⟨a, b⟩ := hlf_cut hh hn
  unfold toh
  rw [if_neg (by omega), a, if_pos rfl]
/-- What a half has a single has. -/
theorem hlf_single {h : Nat} (hh : h < 65536) : ∃ s, s < 4294967296 ∧ sng s = hlf h := by
  by_cases hn : 31744 < h % 32768
  · exact ⟨2143289344, by decide, by rw [hlf_nan hn, sng_nan (by decide)]⟩
  unfold hlf
  rw [if_neg hn]
  by_cases hi : h % 32768 = 31744
  · rw [if_pos hi]
    refine ⟨h / 32768 * 2147483648 + 2139095040, by omega, ?_⟩
    have q1 : (h / 32768 * 2147483648 + 2139095040) % 2147483648 = 2139095040 := by omega
    have q2 : (h / 32768 * 2147483648 + 2139095040) / 2147483648 = h / 32768 := by omega
    unfold sng
    rw [q1, q2, if_neg (by omega), if_pos rfl]
  · rw [if_neg hi]
    have key : ∀ (d : Nat) (p : Int), d ≠ 0 → d.log2 ≤ 10 → -24 ≤ p + (d.log2 : Nat) → p + (d.log2 : Nat) ≤ 15 → ∃ s, s < 4294967296 ∧ sng s = h / 32768 * 9223372036854775808 + nr d p := by
      intro d p h0 hl hp0 hp1
      obtain ⟨a, b, c, d0⟩ := ns_spec (d := d) (p := p) h0 (by omega) (by omega) (by omega)
      refine ⟨h / 32768 * 2147483648 + ns d p, by omega, ?_⟩
      have q1 : (h / 32768 * 2147483648 + ns d p) % 2147483648 = ns d p := by omega
      have q2 : (h / 32768 * 2147483648 + ns d p) / 2147483648 = h / 32768 := by omega
      unfold sng
      rw [q1, q2, if_neg (by omega), if_neg (by omega), if_neg d0, b, c, nr_scale _ h0 (by omega)]
    by_cases hs : h % 32768 < 1024
    · rw [if_pos hs]
      by_cases hz : h % 32768 = 0
      · rw [if_pos hz]
        refine ⟨h / 32768 * 2147483648, by omega, ?_⟩
        have q1 : (h / 32768 * 2147483648) % 2147483648 = 0 := by omega
        have q2 : (h / 32768 * 2147483648) / 2147483648 = h / 32768 := by omega
        unfold sng
        rw [q1, q2, if_neg (by omega), if_neg (by omega), if_pos rfl]
      · rw [if_neg hz]
        have hl : (h % 32768).log2 < 10 := lg_small hz hs
        exact key _ _ hz (by omega) (by omega) (by omega)
    · rw [if_neg hs, ← hlf_norm (r := h % 32768) (by omega) (by omega)]
      have hl : (1024 + h % 32768 % 1024).log2 = 10 := lg_unique (by omega) (by omega)
      exact key _ _ (by omega) (by omega) (by omega) (by omega)
theorem sng_lt {s : Nat} (hs : s < 4294967296) : sng s < 18446744073709551616 := by
  unfold sng
  split
  · decide
  · have h2 : s / 2147483648 < 2 := by omega
    split
    · show _ + 9218868437227405312 < _; omega
    · split
      · omega
      · rename_i h1 h3 h4
        obtain ⟨a, b, c, d⟩ := single_parts h4 (by omega)
        have := (nr_spec (d := mg single (s % 2147483648)) (p := pl single (s % 2147483648)) a (by omega) (by omega) (by omega)).1
        have h5 : INF = 9218868437227405312 := rfl
        omega
theorem hlf_lt {h : Nat} (hh : h < 65536) : hlf h < 18446744073709551616 := by
  obtain ⟨s, a, b⟩ := hlf_single hh
  rw [← b]; exact sng_lt a
theorem near_le (f : Format) (m : Nat) (p : Int) : f.nearest false m p ≤ f.infRung := by
  unfold Format.nearest Format.word
  by_cases h : m = 0
  · simp [h]
  · simp [h, Nat.min_le_right]
theorem tosr_bound {b : Nat} (hb : b < 18446744073709551616) : tosr b < 4294967296 ∧ tosr b / 2147483648 = sg b ∧ tosr b % 2147483648 = single.nearest false (mg double (rg b)) (pl double (rg b)) := by
  have h := near_le single (mg double (rg b)) (pl double (rg b))
  rw [sgl_inf] at h
  have h2 : sg b < 2 := by unfold sg; omega
  unfold tosr
  omega
/-- Is the float of 64 bits one of 32? just if some single is that float. -/
theorem tos_iff {b : Nat} (hb : b < 18446744073709551616) (hn : rg b ≤ INF) : (tos b).2 = true ↔ (∃ s, s < 4294967296 ∧ sng s = b) := by
  constructor
  · intro h
    unfold tos at h
    rw [if_neg (by omega)] at h
    split at h
    · rename_i hi
      have h2 : sg b < 2 := by unfold sg; omega
      refine ⟨sg b * 2147483648 + 2139095040, by omega, ?_⟩
      have q1 : (sg b * 2147483648 + 2139095040) % 2147483648 = 2139095040 := by omega
      have q2 : (sg b * 2147483648 + 2139095040) / 2147483648 = sg b := by omega
      unfold sng
      rw [q1, q2, if_neg (by omega), if_pos rfl]
      unfold rg at hi
      unfold sg
      omega
    · split at h
      · rename_i h1 h2
        exact ⟨_, (tosr_bound hb).1, h2⟩
      · cases h
  · rintro ⟨s, hs, rfl⟩
    by_cases hk : s % 2147483648 ≤ 2139095040
    · rw [sng_back hs hk]
    · rw [sng_nan (by omega)] at hn
      exact absurd hn (by decide)
/-- What is told of a single that is that float is one. -/
theorem tos_sng {b : Nat} (hb : b < 18446744073709551616) (h : (tos b).2 = true) : (tos b).1 < 4294967296 ∧ sng (tos b).1 = (if INF < rg b then NANW else b) := by
  by_cases hn : INF < rg b
  · rw [if_pos hn, tos_nan hn]
    exact ⟨by decide, sng_nan (by decide)⟩
  · rw [if_neg hn]
    obtain ⟨s, hs, rfl⟩ := (tos_iff hb (by omega)).1 h
    by_cases hk : s % 2147483648 ≤ 2139095040
    · rw [sng_back hs hk]; exact ⟨hs, rfl⟩
    · rw [sng_nan (by omega)] at hn
      exact absurd nan_rg hn
theorem toh_hlf {b : Nat} (h : (toh b).2 = true) : hlf (toh b).1 = (if INF < rg b then NANW else b) := by
  by_cases hn : INF < rg b
  · rw [if_pos hn, toh_nan hn]
    exact hlf_nan (by decide)
  · rw [if_neg hn]
    unfold toh at h ⊢
    rw [if_neg hn] at h ⊢
    split at h
    · rename_i h1; rw [if_pos h1]; exact h1
    · cases h
theorem cuth_lt {b : Nat} (hb : b < 18446744073709551616) : cuth b < 65536 := by
  unfold cuth
  split
  · omega
  · split
    · omega
    · have h1 : (4503599627370496 + b % 4503599627370496) / 2 ^ (1051 - b / 4503599627370496 % 2048) ≤ (4503599627370496 + b % 4503599627370496) / 2 ^ 43 :=
        Nat.div_le_div_left (Nat.pow_le_pow_right (by decide) (by omega)) (Nat.two_pow_pos _)
      omega
theorem toh_lt {b : Nat} (hb : b < 18446744073709551616) : (toh b).1 < 65536 := by
  unfold toh
  split
  · decide
  · split
    · exact cuth_lt hb
    · decide
/-- What is a half is a single. -/
theorem toh_tos {b : Nat} (hb : b < 18446744073709551616) (h : (toh b).2 = true) : (tos b).2 = true := by
  by_cases hn : INF < rg b
  · rw [tos_nan hn]
  · have e := toh_hlf h
    rw [if_neg hn] at e
    rw [tos_iff hb (by omega), ← e]
    exact hlf_single (toh_lt hb)
end Go.Proofs.YtoibaeilbolffaaGreatDoor
