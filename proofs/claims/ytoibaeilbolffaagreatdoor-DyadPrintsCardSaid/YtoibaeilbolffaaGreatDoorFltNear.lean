/-
  Floats as words: the nearest word of a number that the format has is that number's word; a number by another power is the same. Plain arithmetic over the model's formats, no Go. For every format.
-/
import Derived.RowKit
namespace Go.Proofs.YtoibaeilbolffaaGreatDoor
open Ieee

theorem lg_unique {n k : Nat} (h0 : 2 ^ k ≤ n) (h1 : n < 2 ^ (k + 1)) : n.log2 = k := by
  have hn : n ≠ 0 := by have := Nat.two_pow_pos k; omega
  have a := Nat.log2_self_le hn
  have b := Nat.lt_log2_self (n := n)
  apply Nat.le_antisymm
  · apply Nat.le_of_lt_succ
    exact (Nat.pow_lt_pow_iff_right (by decide : 1 < 2)).1 (Nat.lt_of_le_of_lt a h1)
  · apply Nat.le_of_lt_succ
    exact (Nat.pow_lt_pow_iff_right (by decide : 1 < 2)).1 (Nat.lt_of_le_of_lt h0 b)
theorem lg_mul (m d : Nat) (h : m ≠ 0) : (m * 2 ^ d).log2 = m.log2 + d := by
  have a := Nat.log2_self_le h
  have b := Nat.lt_log2_self (n := m)
  apply lg_unique
  · rw [Nat.pow_add]; exact Nat.mul_le_mul_right _ a
  · rw [show m.log2 + d + 1 = (m.log2 + 1) + d from by omega, Nat.pow_add]
    exact Nat.mul_lt_mul_of_pos_right b (Nat.two_pow_pos d)

theorem cut_zero (neg : Bool) (n : Nat) : Toward.even.cut neg n 0 = n := by
  simp [Toward.cut, Nat.mod_one]
theorem cut_exact (neg : Bool) (m d : Nat) (hm : m ≠ 0) : Toward.even.cut neg (m * 2 ^ d) d = m := by
  have hp := Nat.two_pow_pos d
  have h : min d ((m * 2 ^ d).log2 + 2) = d := by rw [lg_mul m d hm]; omega
  unfold Toward.cut
  simp only [h, Nat.one_shiftLeft]
  rw [Nat.mul_mod_left, Nat.mul_div_cancel _ hp]
  have e1 : decide (2 ^ d < 2 * 0) = false := by simp
  have e2 : (2 ^ d == 2 * 0) = false := by simp
  rw [e1, e2]
  rfl
theorem cut_scale (neg : Bool) (n d k : Nat) (hn : n ≠ 0) : Toward.even.cut neg (n * 2 ^ k) (d + k) = Toward.even.cut neg n d := by
  have hp := Nat.two_pow_pos k
  have h : min (d + k) ((n * 2 ^ k).log2 + 2) = min d (n.log2 + 2) + k := by rw [lg_mul n k hn]; omega
  unfold Toward.cut
  simp only [h, Nat.one_shiftLeft]
  generalize min d (n.log2 + 2) = g
  rw [Nat.pow_add, Nat.mul_div_mul_right _ _ hp, Nat.mul_mod_mul_right, ← Nat.mul_assoc]
  have e1 : decide (2 ^ g * 2 ^ k < 2 * (n % 2 ^ g) * 2 ^ k) = decide (2 ^ g < 2 * (n % 2 ^ g)) := by
    rw [decide_eq_decide]; exact Nat.mul_lt_mul_right hp
  have e2 : (2 ^ g * 2 ^ k == 2 * (n % 2 ^ g) * 2 ^ k) = (2 ^ g == 2 * (n % 2 ^ g)) := by
    rw [Bool.eq_iff_iff, beq_iff_eq, beq_iff_eq]; exact ⟨fun h => Nat.eq_of_mul_eq_mul_right hp h, fun h => congrArg (fun z => z * 2 ^ k) h⟩
  rw [e1, e2]

theorem near_zero (f : Format) (neg : Bool) (p : Int) : f.nearest neg 0 p = f.word neg 0 := by simp [Format.nearest]
theorem near_scale (f : Format) (neg : Bool) (m : Nat) (p : Int) (k : Nat) : f.nearest neg (m * 2 ^ k) (p - k) = f.nearest neg m p := by
  by_cases hm : m = 0
  · subst hm; rw [Nat.zero_mul, near_zero, near_zero]
  have hk := Nat.two_pow_pos k
  have hmk : m * 2 ^ k ≠ 0 := Nat.mul_ne_zero hm (by omega)
  have hl : (p - k + ((m * 2 ^ k).log2 : Nat) - f.fractionBits : Int) = p + (m.log2 : Nat) - f.fractionBits := by rw [lg_mul m k hm]; omega
  unfold Format.nearest
  rw [if_neg hm, if_neg hmk]
  simp only [hl]
  generalize max (p + (m.log2 : Nat) - f.fractionBits : Int) f.leastPlace = L
  have key : Toward.even.cut neg ((m * 2 ^ k) <<< (p - k - L).toNat) (L - (p - k)).toNat = Toward.even.cut neg (m <<< (p - L).toNat) (L - p).toNat := by
    by_cases h1 : L ≤ p - k
    · have a1 : (L - (p - k)).toNat = 0 := by omega
      have a2 : (L - p).toNat = 0 := by omega
      have a3 : (p - L).toNat = k + (p - k - L).toNat := by omega
      rw [a1, a2, cut_zero, cut_zero, a3, Nat.shiftLeft_eq, Nat.shiftLeft_eq, Nat.pow_add, Nat.mul_assoc]
    · by_cases h2 : L ≤ p
      · have a1 : (p - k - L).toNat = 0 := by omega
        have a2 : (L - p).toNat = 0 := by omega
        obtain ⟨j, hj⟩ : ∃ j : Nat, (L - (p - k)).toNat = j := ⟨_, rfl⟩
        have a3 : k = (p - L).toNat + j := by omega
        rw [a1, a2, hj, cut_zero, Nat.shiftLeft_zero, Nat.shiftLeft_eq]
        generalize (p - L).toNat = i at *
        subst a3
        rw [Nat.pow_add, ← Nat.mul_assoc]
        exact cut_exact neg _ j (Nat.mul_ne_zero hm (by have := Nat.two_pow_pos i; omega))
      · have a1 : (p - k - L).toNat = 0 := by omega
        have a2 : (p - L).toNat = 0 := by omega
        have a3 : (L - (p - k)).toNat = (L - p).toNat + k := by omega
        rw [a1, a2, a3, Nat.shiftLeft_zero, Nat.shiftLeft_zero]
        exact cut_scale neg m _ k hm
  rw [key]

/-- The size and the place of a rung that is a number's. -/
def mg (f : Format) (r : Nat) : Nat := if r < f.binade then r else f.binade + r % f.binade
def pl (f : Format) (r : Nat) : Int := if r < f.binade then f.leastPlace else f.leastPlace + (r / f.binade - 1 : Nat)
theorem read_word (f : Format) (neg : Bool) (r : Nat) (h : r < f.infRung) (hs : r < f.signWeight) : f.read (f.word neg r) = .number neg (mg f r) (pl f r) := by
  have e1 : f.word neg r % f.signWeight = r := by
    unfold Format.word
    cases neg
    · simp [Nat.mod_eq_of_lt hs]
    · simp [Nat.mod_eq_of_lt hs]
  have e2 : (f.word neg r / f.signWeight % 2 == 1) = neg := by
    have hp : 0 < f.signWeight := by omega
    unfold Format.word
    cases neg
    · simp [Nat.div_eq_of_lt hs]
    · simp [Nat.add_div_left _ hp, Nat.div_eq_of_lt hs]
  unfold Format.read mg pl
  simp only [e1, e2, h, if_true]
  split <;> rfl
theorem near_rung (f : Format) (neg : Bool) (r : Nat) (h : r < f.infRung) : f.nearest neg (mg f r) (pl f r) = f.word neg r := by
  have hb : 0 < f.binade := Nat.two_pow_pos _
  unfold mg pl
  split
  · rename_i hr
    by_cases h0 : r = 0
    · subst h0; exact near_zero f neg _
    · have hl : r.log2 < f.fractionBits := (Nat.log2_lt h0).2 hr
      have e : max (f.leastPlace + (r.log2 : Nat) - f.fractionBits : Int) f.leastPlace = f.leastPlace := by omega
      unfold Format.nearest
      rw [if_neg h0]
      simp only [e, Int.sub_self, Int.toNat_zero, Nat.shiftLeft_zero, cut_zero, Nat.zero_mul, Nat.zero_add]
      rw [Nat.min_eq_left (by omega)]
  · rename_i hr
    have hm : r % f.binade < f.binade := Nat.mod_lt _ hb
    have h0 : f.binade + r % f.binade ≠ 0 := by omega
    have hl : (f.binade + r % f.binade).log2 = f.fractionBits := lg_unique (by show f.binade ≤ _; omega) (by rw [Nat.pow_succ]; show _ < f.binade * 2; omega)
    have hq : 1 ≤ r / f.binade := (Nat.one_le_div_iff hb).2 (by omega)
    unfold Format.nearest
    rw [if_neg h0]
    have e : max (f.leastPlace + (r / f.binade - 1 : Nat) + ((f.binade + r % f.binade).log2 : Nat) - f.fractionBits : Int) f.leastPlace = f.leastPlace + (r / f.binade - 1 : Nat) := by rw [hl]; omega
    simp only [e, Int.sub_self, Int.toNat_zero, Nat.shiftLeft_zero, cut_zero]
    have e2 : (f.leastPlace + ((r / f.binade - 1 : Nat) : Int) - f.leastPlace).toNat = r / f.binade - 1 := by omega
    rw [e2]
    have e3 : (r / f.binade - 1) * f.binade + (f.binade + r % f.binade) = r := by
      have := Nat.div_add_mod r f.binade
      obtain ⟨q, hq2⟩ : ∃ q, r / f.binade = q + 1 := ⟨r / f.binade - 1, by omega⟩
      rw [hq2] at this ⊢
      rw [Nat.mul_succ, Nat.mul_comm] at this
      rw [Nat.add_sub_cancel]
      omega
    rw [e3, Nat.min_eq_left (by omega)]
/-- What a rung stands for, by a lesser power: the nearest word is that rung's. -/
theorem near_of (f : Format) (neg : Bool) (r m : Nat) (p : Int) (k : Nat) (h : r < f.infRung) (hm : m = mg f r * 2 ^ k) (hp : p = pl f r - k) : f.nearest neg m p = f.word neg r := by
  rw [hm, hp, near_scale, near_rung f neg r h]
/-- .. by a greater one. -/
theorem near_of' (f : Format) (neg : Bool) (r m : Nat) (p : Int) (k : Nat) (h : r < f.infRung) (hm : m * 2 ^ k = mg f r) (hp : p - k = pl f r) : f.nearest neg m p = f.word neg r := by
  rw [← near_scale f neg m p k, hm, hp, near_rung f neg r h]
end Go.Proofs.YtoibaeilbolffaaGreatDoor
