/-
  The nearest exact and rough numbers: plain arithmetic over blen, tz. For every number below 2^256 in size.
-/
import Derived.Test.YtbegblkfdnaloaaDoorWholeH
namespace Go.Proofs.YtbegblkfdnaloaaDoor

/-- A number that a float of 64 bits has: 53 bits, moved. -/
theorem exq_iff {x : Nat} (hx : x < 2 ^ 256) : exq x = true ↔ ∃ m k : Nat, x = m * 2 ^ k ∧ m < 2 ^ 53 := by
  by_cases h0 : x = 0
  · subst h0
    refine ⟨fun _ => ⟨0, 0, by simp, by decide⟩, fun _ => by decide +kernel⟩
  obtain ⟨⟨n, hn⟩, ht⟩ := tz_spec h0 hx
  obtain ⟨b1, b2, b3⟩ := blen_spec h0
  unfold exq
  rw [decide_eq_true_iff]
  constructor
  · intro h
    refine ⟨2 * n + 1, tz x, by rw [Nat.mul_comm]; exact hn, ?_⟩
    have hlt : 2 ^ tz x * (2 * n + 1) < 2 ^ (tz x + 53) := by
      rw [← hn]
      exact Nat.lt_of_lt_of_le b3 (Nat.pow_le_pow_right (by decide) (by omega))
    rw [Nat.pow_add] at hlt
    exact Nat.lt_of_mul_lt_mul_left hlt
  · rintro ⟨m, k, hm, hlt⟩
    have hm0 : m ≠ 0 := by intro h; subst h; simp at hm; exact h0 hm
    -- the noughts at the end are at least k more than m's
    have hk : k ≤ tz x := by
      apply Decidable.byContradiction
      intro hk
      have : x = 2 ^ tz x * (2 * (m * 2 ^ (k - tz x - 1))) := by
        have e : 2 ^ k = 2 ^ tz x * (2 * 2 ^ (k - tz x - 1)) := by
          rw [← Nat.pow_succ', ← Nat.pow_add, show tz x + (k - tz x - 1 + 1) = k from by omega]
        conv => lhs; rw [hm, e]
        rw [Nat.mul_left_comm, Nat.mul_left_comm m 2]
      rw [this] at hn
      have e1 : tz (2 ^ tz x * (2 * (m * 2 ^ (k - tz x - 1)))) = tz x := by rw [← this]
      rw [e1] at hn
      have := Nat.eq_of_mul_eq_mul_left (Nat.two_pow_pos _) hn
      omega
    have hb : blen x ≤ 53 + k := by
      apply blen_le
      rw [hm, Nat.pow_add]
      exact Nat.mul_lt_mul_of_pos_right hlt (Nat.two_pow_pos _)
    omega
/-- Of a number that is not exact: cut off below 53 bits, it is less, and more than that by one of the last bits kept is greater; nothing exact lies between. -/
theorem cut_bounds {x : Nat} (hx : x < 2 ^ 256) (h : exq x = false) : 53 < blen x ∧
    (let o := blen x - 53
     x / 2 ^ o < 2 ^ 53 ∧ 2 ^ 52 ≤ x / 2 ^ o ∧ x / 2 ^ o * 2 ^ o < x ∧ x < (x / 2 ^ o + 1) * 2 ^ o) := by
  have hb := blen_exq h
  refine ⟨hb, ?_⟩
  have h0 : x ≠ 0 := by intro e; subst e; simp [blen] at hb
  obtain ⟨b1, b2, b3⟩ := blen_spec h0
  intro o
  have ho : blen x = 53 + o := by omega
  have hp := Nat.two_pow_pos o
  have c1 : x / 2 ^ o < 2 ^ 53 := by
    rw [Nat.div_lt_iff_lt_mul hp, ← Nat.pow_add, ← ho]; exact b3
  have c2 : 2 ^ 52 ≤ x / 2 ^ o := by
    rw [Nat.le_div_iff_mul_le hp, ← Nat.pow_add]
    rwa [show 52 + o = blen x - 1 from by omega]
  refine ⟨c1, c2, ?_, ?_⟩
  · rcases Nat.lt_or_eq_of_le (Nat.div_mul_le_self x (2 ^ o)) with h1 | h1
    · exact h1
    · exfalso
      have : exq x = true := (exq_iff hx).2 ⟨x / 2 ^ o, o, h1.symm, c1⟩
      rw [h] at this; cases this
  · have := Nat.lt_div_mul_add hp (a := x)
    rw [Nat.add_mul, Nat.one_mul]; exact this
/-- An exact number is at the cut, or below, or beyond the next one. -/
theorem exact_apart {x y : Nat} (hx : x < 2 ^ 256) (hy : y < 2 ^ 256) (h : exq x = false) (he : exq y = true) :
    y ≤ x / 2 ^ (blen x - 53) * 2 ^ (blen x - 53) ∨ (x / 2 ^ (blen x - 53) + 1) * 2 ^ (blen x - 53) ≤ y := by
  obtain ⟨hb, c⟩ := cut_bounds hx h
  obtain ⟨c1, c2, c3, c4⟩ := c
  obtain ⟨m, k, hm, hlt⟩ := (exq_iff hy).1 he
  have hp := Nat.two_pow_pos (blen x - 53)
  by_cases hk : blen x - 53 ≤ k
  · -- y is a multiple of the last bit kept
    obtain ⟨j, rfl⟩ : ∃ j, k = (blen x - 53) + j := ⟨k - (blen x - 53), by omega⟩
    have e : y = (m * 2 ^ j) * 2 ^ (blen x - 53) := by rw [hm, Nat.pow_add, Nat.mul_comm (2 ^ (blen x - 53)), Nat.mul_assoc]
    rw [e]
    rcases Nat.lt_or_ge (x / 2 ^ (blen x - 53)) (m * 2 ^ j) with h1 | h1
    · exact .inr (Nat.mul_le_mul_right _ h1)
    · exact .inl (Nat.mul_le_mul_right _ h1)
  · -- y is less than any number of so many bits
    left
    have hy2 : y < 2 ^ (53 + k) := by
      rw [hm, Nat.pow_add]; exact Nat.mul_lt_mul_of_pos_right hlt (Nat.two_pow_pos _)
    have h3 : 2 ^ (53 + k) ≤ 2 ^ 52 * 2 ^ (blen x - 53) := by
      rw [← Nat.pow_add]; exact Nat.pow_le_pow_right (by decide) (by omega)
    have h4 : 2 ^ 52 * 2 ^ (blen x - 53) ≤ x / 2 ^ (blen x - 53) * 2 ^ (blen x - 53) := Nat.mul_le_mul_right _ c2
    omega
theorem exq_cut {x : Nat} (hx : x < 2 ^ 256) (h : exq x = false) : exq (x / 2 ^ (blen x - 53) * 2 ^ (blen x - 53)) = true := by
  obtain ⟨_, c⟩ := cut_bounds hx h
  obtain ⟨c1, _, c3, _⟩ := c
  exact (exq_iff (by omega)).2 ⟨_, _, rfl, c1⟩
theorem exq_next {x : Nat} (hx : x < 2 ^ 256) (h : exq x = false) (hl : (x / 2 ^ (blen x - 53) + 1) * 2 ^ (blen x - 53) < 2 ^ 256) : exq ((x / 2 ^ (blen x - 53) + 1) * 2 ^ (blen x - 53)) = true := by
  obtain ⟨_, c⟩ := cut_bounds hx h
  obtain ⟨c1, _, _, _⟩ := c
  rcases Nat.lt_or_eq_of_le (show x / 2 ^ (blen x - 53) + 1 ≤ 2 ^ 53 from c1) with h1 | h1
  · exact (exq_iff hl).2 ⟨_, _, rfl, h1⟩
  · refine (exq_iff hl).2 ⟨1, 53 + (blen x - 53), ?_, by decide⟩
    rw [h1, Nat.one_mul, Nat.pow_add]

/-- Small numbers are exact; beyond 2^53 the exact ones are even. -/
theorem exq_small {x : Nat} (h : x ≤ 2 ^ 53) : exq x = true := by
  rcases Nat.lt_or_eq_of_le h with h1 | h1
  · exact (exq_iff (by omega)).2 ⟨x, 0, by simp, h1⟩
  · exact (exq_iff (by omega)).2 ⟨1, 53, by rw [h1], by decide⟩
theorem exq_even {x : Nat} (hx : x < 2 ^ 256) (h : exq x = true) (hl : 2 ^ 53 ≤ x) : x % 2 = 0 := by
  obtain ⟨m, k, hm, hlt⟩ := (exq_iff hx).1 h
  cases k with
  | zero => simp at hm; omega
  | succ k => rw [hm, Nat.pow_succ, ← Nat.mul_assoc]; omega
theorem exq_odd {x : Nat} (hx : x < 2 ^ 256) (hl : 2 ^ 53 < x) (ho : x % 2 = 1) : exq x = false := by
  cases h : exq x with
  | false => rfl
  | true => have := exq_even hx h (by omega); omega

/-- Upward and downward, said of integers. -/
theorem eup_ge {z : Int} (hz : z.natAbs < 2 ^ 256) : z ≤ eup z ∧ ((eup z).natAbs < 2 ^ 256 → exq (eup z).natAbs = true) := by
  unfold eup
  by_cases hq : exq z.natAbs = true
  · rw [if_pos hq]; exact ⟨Int.le_refl _, fun _ => hq⟩
  · rw [if_neg hq]
    have hq' : exq z.natAbs = false := by simpa using hq
    obtain ⟨_, c⟩ := cut_bounds hz hq'
    obtain ⟨c1, c2, c3, c4⟩ := c
    by_cases h0 : 0 ≤ z
    · rw [if_pos h0]
      refine ⟨by omega, fun hl => ?_⟩
      rw [Int.natAbs_natCast] at hl ⊢
      exact exq_next hz hq' hl
    · rw [if_neg h0]
      refine ⟨by omega, fun hl => ?_⟩
      rw [Int.natAbs_neg, Int.natAbs_natCast] at hl ⊢
      exact exq_cut hz hq'
theorem eup_le {z b : Int} (hz : z.natAbs < 2 ^ 256) (hb : b.natAbs < 2 ^ 256) (he : exq b.natAbs = true) (h : z ≤ b) : eup z ≤ b := by
  unfold eup
  by_cases hq : exq z.natAbs = true
  · rw [if_pos hq]; exact h
  · rw [if_neg hq]
    have hq' : exq z.natAbs = false := by simpa using hq
    obtain ⟨_, c⟩ := cut_bounds hz hq'
    obtain ⟨c1, c2, c3, c4⟩ := c
    have ap := exact_apart hz hb hq' he
    have hp := Nat.two_pow_pos (blen z.natAbs - 53)
    by_cases h0 : 0 ≤ z
    · rw [if_pos h0]
      rcases ap with h1 | h1 <;> omega
    · rw [if_neg h0]
      by_cases hb0 : 0 ≤ b
      · omega
      · rcases ap with h1 | h1 <;> omega
theorem rup_ge {z : Int} (hz : z.natAbs < 2 ^ 256) : z ≤ rup z ∧ (rup z).natAbs < 2 ^ 256 ∧ exq (rup z).natAbs = false := by
  unfold rup
  by_cases hq : exq z.natAbs = true
  · rw [if_pos hq]
    by_cases hs : z.natAbs ≤ 9007199254740992
    · rw [if_pos hs]
      exact ⟨by omega, by decide, by decide +kernel⟩
    · rw [if_neg hs]
      have hev := exq_even hz hq (by omega)
      have hl : (z + 1).natAbs < 2 ^ 256 := by omega
      exact ⟨by omega, hl, exq_odd hl (by omega) (by omega)⟩
  · rw [if_neg hq]
    exact ⟨Int.le_refl _, hz, by simpa using hq⟩
theorem rup_le {z b : Int} (_hz : z.natAbs < 2 ^ 256) (hb : b.natAbs < 2 ^ 256) (he : exq b.natAbs = false) (h : z ≤ b) : rup z ≤ b := by
  have hbl : 9007199254740992 < b.natAbs := by
    apply Decidable.byContradiction
    intro hn
    have := exq_small (x := b.natAbs) (by omega)
    rw [he] at this; cases this
  unfold rup
  by_cases hq : exq z.natAbs = true
  · rw [if_pos hq]
    by_cases hs : z.natAbs ≤ 9007199254740992
    · rw [if_pos hs]; omega
    · rw [if_neg hs]
      have : z ≠ b := by intro e; subst e; rw [he] at hq; cases hq
      omega
  · rw [if_neg hq]; exact h
/-- Where nothing exact is left above: none that is greater is. -/
theorem eup_none {z b : Int} (hz : z.natAbs < 2 ^ 256) (hb : b.natAbs < 2 ^ 256) (hn : ¬ (eup z).natAbs < 2 ^ 256) (he : exq b.natAbs = true) : b < z := by
  apply Decidable.byContradiction
  intro h
  have h1 := eup_le hz hb he (by omega)
  have h2 := (eup_ge hz).1
  omega
/-- Both ends are not missed at once. -/
theorem eup_some {z : Int} (hz : z.natAbs < 2 ^ 256) : (eup z).natAbs < 2 ^ 256 ∨ (eup (-z)).natAbs < 2 ^ 256 := by
  by_cases h0 : 0 ≤ z
  · right
    have h1 := (eup_ge (z := -z) (by omega)).1
    have h2 := eup_le (z := -z) (b := 0) (by omega) (by decide) (by decide +kernel) (by omega)
    omega
  · left
    have h1 := (eup_ge hz).1
    have h2 := eup_le (z := z) (b := 0) hz (by decide) (by decide +kernel) (by omega)
    omega
end Go.Proofs.YtbegblkfdnaloaaDoor
