/-
  Floats packed in less bits: plain arithmetic, no Go. For every word.
-/
import Derived.Test.YtjdogiehcgfmjaaGreatDoorGF
import Derived.Test.YtjdogiehcgfmjaaGreatDoorGC
import Derived.Test.YtjdogiehcgfmjaaGreatDoorGL
namespace Go.Proofs.YtjdogiehcgfmjaaGreatDoor
open Ieee

/-- The odd part of a number, and how many noughts stand behind it. -/
theorem odd_of {D : Nat} (h0 : D ≠ 0) (h : D < 2 ^ 256) : ∃ d m t, d = 2 * m + 1 ∧ D = d * 2 ^ t ∧ t = tz D ∧ D.log2 = d.log2 + t ∧ D / 2 ^ t = d := by
  obtain ⟨⟨m, hm⟩, _⟩ := tz_spec h0 h
  have hD : D = (2 * m + 1) * 2 ^ tz D := by rw [Nat.mul_comm]; exact hm
  refine ⟨2 * m + 1, m, tz D, rfl, hD, rfl, ?_, ?_⟩
  · have := lg_mul (2 * m + 1) (tz D) (by omega)
    rw [← hD] at this
    exact this
  · have : (2 * m + 1) * 2 ^ tz D / 2 ^ tz D = 2 * m + 1 := Nat.mul_div_cancel _ (Nat.two_pow_pos _)
    rw [← hD] at this
    exact this
theorem fill_le {n k j : Nat} (h : n + 1 ≤ j) (hj : j = k + 1) (hk : k ≤ 52) : n + (k - n) ≤ 52 := by omega
theorem lg_lt {n k : Nat} (h : n < 2 ^ k) (h0 : n ≠ 0) : n.log2 < k := (Nat.log2_lt h0).2 h
theorem lt_lg {n k : Nat} (h : n.log2 < k) (h0 : n ≠ 0) : n < 2 ^ k := (Nat.log2_lt h0).1 h
/-- A normal word is its digits by their power of two. -/
theorem nr_word {r : Nat} (h0 : 4503599627370496 ≤ r) (h1 : r < INF) : dg r = 4503599627370496 + r % 4503599627370496 ∧ ex r = (r / 4503599627370496 : Nat) - 1075 ∧ (dg r).log2 = 52 ∧ nr (dg r) (ex r) = r := by
  have hI : INF = 9218868437227405312 := rfl
  have hf : r / 4503599627370496 % 2048 = r / 4503599627370496 := Nat.mod_eq_of_lt (by omega)
  have hd : dg r = 4503599627370496 + r % 4503599627370496 := by
    unfold dg
    rw [hf, if_neg (by omega)]
    omega
  have he : ex r = (r / 4503599627370496 : Nat) - 1075 := by
    unfold ex
    rw [hf, if_neg (by omega)]
  have hl : (dg r).log2 = 52 := lg_unique (by rw [hd, show (2 : Nat) ^ 52 = 4503599627370496 from by decide]; omega) (by rw [hd, show (2 : Nat) ^ (52 + 1) = 9007199254740992 from by decide]; omega)
  refine ⟨hd, he, hl, ?_⟩
  unfold nr
  rw [hl, he, hd]
  simp only [Nat.sub_self, Nat.pow_zero, Nat.mul_one]
  omega
theorem dg_small {b : Nat} (h : rg b < 4503599627370496) : dg b < 4503599627370496 ∧ ex b = -1074 ∧ dg b = rg b := by
  have hf : b / 4503599627370496 % 2048 = 0 := by unfold rg at h; omega
  unfold dg ex
  rw [if_pos hf, if_pos hf]
  unfold rg at h ⊢
  omega
theorem ex_rg (b : Nat) : ex b = ex (rg b) := by
  unfold ex
  have e2 : rg b / 4503599627370496 % 2048 = b / 4503599627370496 % 2048 := by unfold rg; omega
  rw [e2]
/-- The parts of a word that is digits by a power of two. -/
theorem nr_digits {b M : Nat} {P : Int} (h : M ≠ 0) (hl : M.log2 ≤ 52) (h0 : -1022 ≤ P + (M.log2 : Nat)) (h1 : P + (M.log2 : Nat) ≤ 1023) (hb : rg b = nr M P) :
    dg b = M * 2 ^ (52 - M.log2) ∧ ex b = P - (52 - M.log2 : Nat) := by
  obtain ⟨s1, s2, s3, s4, _⟩ := nr_spec h hl h0 h1
  obtain ⟨w1, w2, _, _⟩ := nr_word s4 s1
  rw [← hb] at s1 s2 s3 s4 w1 w2
  have a : mg double (rg b) = 4503599627370496 + rg b % 4503599627370496 := by
    unfold mg
    rw [dbl_binade, if_neg (Nat.not_lt.2 s4)]
  have c : pl double (rg b) = -1074 + ((rg b / 4503599627370496 - 1 : Nat) : Int) := by
    unfold pl
    rw [dbl_binade, dbl_least, if_neg (Nat.not_lt.2 s4)]
  refine ⟨by rw [dg_rg, w1, ← a, s2], ?_⟩
  rw [ex_rg, w2, ← s3, c]
  have h5 : 1 ≤ rg b / 4503599627370496 := (Nat.le_div_iff_mul_le (by decide)).2 (by rw [Nat.one_mul]; exact s4)
  clear a c s1 s2 s3 s4 w1 w2 hb h0 h1
  omega
/-- Where a word comes of few digits: its odd part and its last place. -/
theorem nr_fit {b M d m t : Nat} {P : Int} (h : M ≠ 0) (hl : M.log2 ≤ 52) (h0 : -1022 ≤ P + (M.log2 : Nat)) (h1 : P + (M.log2 : Nat) ≤ 1023) (hb : rg b = nr M P) (hd : d = 2 * m + 1) (e : dg b = d * 2 ^ t) :
    d.log2 ≤ M.log2 ∧ P ≤ ex b + t ∧ ex b + t + (d.log2 : Nat) = P + (M.log2 : Nat) := by
  obtain ⟨a1, a2⟩ := nr_digits h hl h0 h1 hb
  have hM : M < 2 ^ 256 := Nat.lt_of_lt_of_le (lt_lg (k := 53) (by omega) h) (Nat.pow_le_pow_right (by decide) (by decide))
  obtain ⟨dM, mM, tM, c1, c2, _, c4, _⟩ := odd_of h hM
  have hdg : dg b = dM * 2 ^ (tM + (52 - M.log2)) := by rw [a1, Nat.pow_add, ← Nat.mul_assoc, ← c2]
  have hdg256 : dg b < 2 ^ 256 := Nat.lt_of_lt_of_le (dg_lt b) (by decide)
  have u1 := tz_unique (x := dg b) (k := t) (m := m) hdg256 (by rw [e, hd, Nat.mul_comm])
  have u2 := tz_unique (x := dg b) (k := tM + (52 - M.log2)) (m := mM) hdg256 (by rw [hdg, c1, Nat.mul_comm])
  have ht : t = tM + (52 - M.log2) := by omega
  have hdd : d = dM := by
    rw [e, ht] at hdg
    exact Nat.eq_of_mul_eq_mul_right (Nat.two_pow_pos _) hdg
  subst hdd
  omega
/-- Digits by a power of two in less bits: so many of digits, the greatest power of the first, the least one of the last; the sign's place. -/
def pk (digits bias least' sgn : Nat) (g : Bool) (D : Nat) (E : Int) : Nat × Bool :=
  if D = 0 then (g.toNat * sgn, true)
  else if (D / 2 ^ tz D).log2 + 1 ≤ digits ∧ E + tz D + ((D / 2 ^ tz D).log2 : Nat) ≤ bias ∧ -(least' : Int) ≤ E + tz D then
    (g.toNat * sgn + (if E + tz D + ((D / 2 ^ tz D).log2 : Nat) < 1 - (bias : Int) then D / 2 ^ tz D * 2 ^ (E + tz D + least').toNat else (E + tz D + ((D / 2 ^ tz D).log2 : Nat) + bias - 1).toNat * 2 ^ (digits - 1) + D / 2 ^ tz D * 2 ^ (digits - 1 - (D / 2 ^ tz D).log2)), true)
  else (0, false)
theorem dg_zero {b : Nat} (h : dg b = 0) : rg b = 0 := by
  unfold dg at h
  split at h
  · unfold rg; omega
  · omega
theorem sg_two {b : Nat} (hb : b < 18446744073709551616) : sg b < 2 ∧ (sg b == 1).toNat = sg b := by
  have : sg b < 2 := by unfold sg; omega
  refine ⟨this, ?_⟩
  have h2 : sg b = 0 ∨ sg b = 1 := by omega
  rcases h2 with h2 | h2 <;> rw [h2] <;> rfl
/-- A finite word whose parts fit is the digits by that power. -/
theorem word_fit {b d t : Nat} (hf : rg b < INF) (e : dg b = d * 2 ^ t) (h0 : dg b ≠ 0) (hl : (dg b).log2 = d.log2 + t) (hp : -200 ≤ ex b + t + (d.log2 : Nat)) : nr d (ex b + t) = rg b := by
  have hd0 : d ≠ 0 := by intro h; rw [h, Nat.zero_mul] at e; exact h0 e
  have hn : 4503599627370496 ≤ rg b := by
    rcases Nat.lt_or_ge (rg b) 4503599627370496 with h | h
    · exfalso
      obtain ⟨s1, s2, _⟩ := dg_small h
      have := lg_lt (k := 52) s1 h0
      omega
    · exact h
  obtain ⟨_, _, w3, w4⟩ := nr_word hn hf
  rw [← dg_rg, ← ex_rg] at w4
  rw [← dg_rg] at w3
  have := nr_scale (d := d) (p := ex b + t) t hd0 (by omega)
  rw [← this, ← e, show ex b + (t : Int) - (t : Int) = ex b from by omega, w4]
set_option maxHeartbeats 1000000 in
theorem pk_tos {b : Nat} (hb : b < 18446744073709551616) (hf : rg b < INF) : pk 24 127 149 2147483648 (sg b == 1) (dg b) (ex b) = tos b := by
  obtain ⟨hs2, hsg⟩ := sg_two hb
  have hw := word_of b
  have hI : INF = 9218868437227405312 := rfl
  unfold pk
  rw [hsg]
  by_cases h0 : dg b = 0
  · rw [if_pos h0]
    have hr := dg_zero h0
    have hx : sng (sg b * 2147483648) = b := by
      unfold sng
      rw [show sg b * 2147483648 % 2147483648 = 0 from by omega, show sg b * 2147483648 / 2147483648 = sg b from by omega]
      simp only [if_true]
      rw [if_neg (by decide), if_neg (by decide)]
      omega
    have := sng_back (s := sg b * 2147483648) (by omega) (by omega)
    rw [hx] at this
    exact this.symm
  · rw [if_neg h0]
    have hD : dg b < 2 ^ 256 := Nat.lt_of_lt_of_le (dg_lt b) (by decide)
    obtain ⟨d, m, t, hd, e, et, hlg, hdiv⟩ := odd_of h0 hD
    rw [← et, hdiv]
    have hd0 : d ≠ 0 := by omega
    by_cases hfit : d.log2 + 1 ≤ 24 ∧ ex b + t + (d.log2 : Nat) ≤ (127 : Nat) ∧ -((149 : Nat) : Int) ≤ ex b + t
    · rw [if_pos hfit]
      obtain ⟨f1, f2, f3⟩ := hfit
      have hwf := word_fit hf e h0 hlg (by omega)
      have key : ∀ v : Nat, v ≠ 0 → v < 2139095040 → nr (mg single v) (pl single v) = rg b → (sg b * 2147483648 + v, true) = tos b := fun v v0 v1 hv => by
        have hx : sng (sg b * 2147483648 + v) = b := by
          unfold sng
          rw [show (sg b * 2147483648 + v) % 2147483648 = v from by omega, show (sg b * 2147483648 + v) / 2147483648 = sg b from by omega, if_neg (by omega), if_neg (by omega), if_neg v0, hv]
          exact hw.symm
        have := sng_back (s := sg b * 2147483648 + v) (by omega) (by omega)
        rw [hx] at this
        exact this.symm
      by_cases hsub : ex b + t + (d.log2 : Nat) < 1 - ((127 : Nat) : Int)
      · rw [if_pos hsub]
        obtain ⟨k, hk⟩ : ∃ k : Nat, ex b + t + ((149 : Nat) : Int) = k := ⟨(ex b + t + ((149 : Nat) : Int)).toNat, by omega⟩
        rw [show (ex b + (t : Int) + ((149 : Nat) : Int)).toNat = k from by omega]
        have hlk := lg_mul d k hd0
        have hv0 : d * 2 ^ k ≠ 0 := by
          have := Nat.mul_pos (show 0 < d by omega) (Nat.two_pow_pos k)
          omega
        have hv1 : d * 2 ^ k < 8388608 := by
          have := lt_lg (k := 23) (n := d * 2 ^ k) (by omega) hv0
          rw [show (2 : Nat) ^ 23 = 8388608 from by decide] at this
          exact this
        refine key _ hv0 (by omega) ?_
        unfold mg pl
        rw [sgl_binade, sgl_least, if_pos hv1, if_pos hv1, ← hwf]
        have := nr_scale (d := d) (p := ex b + t) k hd0 (by omega)
        rw [← this]
        congr 1
        omega
      · rw [if_neg hsub]
        have hns := ns_spec (d := d) (p := ex b + t) hd0 (by omega) (by omega) (by omega)
        have hv : (ex b + (t : Int) + (d.log2 : Nat) + ((127 : Nat) : Int) - 1).toNat * 2 ^ (24 - 1) + d * 2 ^ (24 - 1 - d.log2) = ns d (ex b + t) := by
          unfold ns
          have e1 : (ex b + (t : Int) + (d.log2 : Nat) + ((127 : Nat) : Int) - 1) = (ex b + (t : Int) + (d.log2 : Nat) + 126) := by omega
          rw [e1, show 24 - 1 = 23 from rfl, show (2 : Nat) ^ 23 = 8388608 from by decide]
        rw [hv]
        refine key _ hns.2.2.2 hns.1 ?_
        rw [hns.2.1, hns.2.2.1, ← hwf]
        exact nr_scale (d := d) (p := ex b + t) (23 - d.log2) hd0 (fill_le f1 rfl (by decide))
    · rw [if_neg hfit]
      unfold tos
      rw [if_neg (by omega), if_neg (by omega)]
      rw [if_neg]
      intro hx
      have hts := (tosr_bound hb).1
      generalize tosr b = s at hx hts
      have hb2 : rg b = rg (sng s) := by rw [hx]
      unfold sng at hb2
      by_cases c1 : 2139095040 < s % 2147483648
      · rw [if_pos c1] at hb2
        have := nan_rg
        omega
      · rw [if_neg c1] at hb2
        by_cases c2 : s % 2147483648 = 2139095040
        · rw [if_pos c2, (word_parts (by decide)).1] at hb2
          omega
        · rw [if_neg c2] at hb2
          by_cases c3 : s % 2147483648 = 0
          · rw [if_pos c3, (word_parts (by decide)).1] at hb2
            obtain ⟨_, _, s3⟩ := dg_small (b := b) (by omega)
            omega
          · rw [if_neg c3] at hb2
            obtain ⟨p1, p2, p3, p4⟩ := single_parts c3 (by omega)
            have hn := (nr_spec (d := mg single (s % 2147483648)) (p := pl single (s % 2147483648)) p1 (by omega) (by omega) (by omega)).1
            rw [(word_parts (by omega)).1] at hb2
            obtain ⟨q1, q2, q3⟩ := nr_fit p1 (by omega) (by omega) (by omega) hb2 hd e
            have hpl : -149 ≤ pl single (s % 2147483648) := by
              unfold pl
              rw [sgl_least]
              split <;> omega
            exact hfit ⟨by omega, by omega, by omega⟩
set_option maxHeartbeats 1000000 in
theorem pk_toh {b : Nat} (hb : b < 18446744073709551616) (hf : rg b < INF) : pk 11 15 24 32768 (sg b == 1) (dg b) (ex b) = toh b := by
  obtain ⟨hs2, hsg⟩ := sg_two hb
  have hw := word_of b
  have hI : INF = 9218868437227405312 := rfl
  unfold pk
  rw [hsg]
  by_cases h0 : dg b = 0
  · rw [if_pos h0]
    have hr := dg_zero h0
    have hx : hlf (sg b * 32768) = b := by
      unfold hlf
      rw [show sg b * 32768 % 32768 = 0 from by omega, show sg b * 32768 / 32768 = sg b from by omega]
      simp only [if_true]
      rw [if_neg (by decide), if_neg (by decide), if_pos (by decide)]
      omega
    have := hlf_back (h := sg b * 32768) (by omega) (by omega)
    rw [hx] at this
    exact this.symm
  · rw [if_neg h0]
    have hD : dg b < 2 ^ 256 := Nat.lt_of_lt_of_le (dg_lt b) (by decide)
    obtain ⟨d, m, t, hd, e, et, hlg, hdiv⟩ := odd_of h0 hD
    rw [← et, hdiv]
    have hd0 : d ≠ 0 := by omega
    by_cases hfit : d.log2 + 1 ≤ 11 ∧ ex b + t + (d.log2 : Nat) ≤ (15 : Nat) ∧ -((24 : Nat) : Int) ≤ ex b + t
    · rw [if_pos hfit]
      obtain ⟨f1, f2, f3⟩ := hfit
      have hwf := word_fit hf e h0 hlg (by omega)
      have key : ∀ v : Nat, v < 31744 → (if v < 1024 then (if v = 0 then 0 else nr v (-24)) else v * 4398046511104 + 4539628424389459968) = rg b → (sg b * 32768 + v, true) = toh b := fun v v1 hv => by
        have hx : hlf (sg b * 32768 + v) = b := by
          unfold hlf
          rw [show (sg b * 32768 + v) % 32768 = v from by omega, show (sg b * 32768 + v) / 32768 = sg b from by omega, if_neg (by omega), if_neg (by omega), hv]
          exact hw.symm
        have := hlf_back (h := sg b * 32768 + v) (by omega) (by omega)
        rw [hx] at this
        exact this.symm
      by_cases hsub : ex b + t + (d.log2 : Nat) < 1 - ((15 : Nat) : Int)
      · rw [if_pos hsub]
        obtain ⟨k, hk⟩ : ∃ k : Nat, ex b + t + ((24 : Nat) : Int) = k := ⟨(ex b + t + ((24 : Nat) : Int)).toNat, by omega⟩
        rw [show (ex b + (t : Int) + ((24 : Nat) : Int)).toNat = k from by omega]
        have hlk := lg_mul d k hd0
        have hv0 : d * 2 ^ k ≠ 0 := by
          have := Nat.mul_pos (show 0 < d by omega) (Nat.two_pow_pos k)
          omega
        have hv1 : d * 2 ^ k < 1024 := by
          have := lt_lg (k := 10) (n := d * 2 ^ k) (by omega) hv0
          rw [show (2 : Nat) ^ 10 = 1024 from by decide] at this
          exact this
        refine key _ (by omega) ?_
        rw [if_pos hv1, if_neg hv0, ← hwf]
        have := nr_scale (d := d) (p := ex b + t) k hd0 (by omega)
        rw [← this]
        congr 1
        omega
      · rw [if_neg hsub]
        have hM := top_bounds (n := 10) hd0 (by omega)
        rw [show (2 : Nat) ^ 10 = 1024 from by decide, show (2 : Nat) ^ (10 + 1) = 2048 from by decide] at hM
        have hsc := nr_scale (d := d) (p := ex b + t) (10 - d.log2) hd0 (fill_le f1 rfl (by decide))
        rw [show (2 : Nat) ^ (11 - 1) = 1024 from by decide, show 11 - 1 - d.log2 = 10 - d.log2 from by omega]
        obtain ⟨j, hj⟩ : ∃ j : Nat, ex b + (t : Int) + (d.log2 : Nat) + ((15 : Nat) : Int) - 1 = j := ⟨(ex b + (t : Int) + (d.log2 : Nat) + ((15 : Nat) : Int) - 1).toNat, by omega⟩
        rw [show (ex b + (t : Int) + (d.log2 : Nat) + ((15 : Nat) : Int) - 1).toNat = j from by omega]
        have hp : ex b + (t : Int) - ((10 - d.log2 : Nat) : Int) = (j : Int) - 24 := by omega
        rw [hp] at hsc
        generalize d * 2 ^ (10 - d.log2) = M at hM hsc
        refine key _ (by omega) ?_
        rw [if_neg (by omega), ← hlf_norm (by omega) (by omega), ← hwf, ← hsc]
        congr 1 <;> omega
    · rw [if_neg hfit]
      unfold toh
      rw [if_neg (by omega)]
      rw [if_neg]
      intro hx
      have hts := cuth_lt hb
      generalize cuth b = s at hx hts
      have hb2 : rg b = rg (hlf s) := by rw [hx]
      unfold hlf at hb2
      have fin : ∀ (M : Nat) (P : Int), M ≠ 0 → M.log2 ≤ 10 → -24 ≤ P → P + (M.log2 : Nat) ≤ 15 → rg b = rg (s / 32768 * 9223372036854775808 + nr M P) → False := fun M P p1 p2 p3 p4 hbb => by
        have hn := (nr_spec (d := M) (p := P) p1 (by omega) (by omega) (by omega)).1
        rw [(word_parts (by omega)).1] at hbb
        obtain ⟨q1, q2, q3⟩ := nr_fit (P := P) p1 (by omega) (by omega) (by omega) hbb hd e
        exact hfit ⟨by omega, by omega, by omega⟩
      by_cases c1 : 31744 < s % 32768
      · rw [if_pos c1] at hb2
        have := nan_rg
        omega
      · rw [if_neg c1] at hb2
        by_cases c2 : s % 32768 = 31744
        · rw [if_pos c2, (word_parts (by decide)).1] at hb2
          omega
        · rw [if_neg c2] at hb2
          by_cases c4 : s % 32768 < 1024
          · rw [if_pos c4] at hb2
            by_cases c3 : s % 32768 = 0
            · rw [if_pos c3, (word_parts (by decide)).1] at hb2
              obtain ⟨_, _, s3⟩ := dg_small (b := b) (by omega)
              omega
            · rw [if_neg c3] at hb2
              have hl := lg_lt (k := 10) (n := s % 32768) (by rw [show (2 : Nat) ^ 10 = 1024 from by decide]; exact c4) c3
              exact fin _ _ c3 (by omega) (by omega) (by omega) hb2
          · rw [if_neg c4, ← hlf_norm (by omega) (by omega)] at hb2
            have hl : (1024 + s % 32768 % 1024).log2 = 10 := lg_unique (by rw [show (2 : Nat) ^ 10 = 1024 from by decide]; omega) (by rw [show (2 : Nat) ^ (10 + 1) = 2048 from by decide]; omega)
            exact fin _ _ (by omega) (by omega) (by omega) (by rw [hl]; omega) hb2
end Go.Proofs.YtjdogiehcgfmjaaGreatDoor
