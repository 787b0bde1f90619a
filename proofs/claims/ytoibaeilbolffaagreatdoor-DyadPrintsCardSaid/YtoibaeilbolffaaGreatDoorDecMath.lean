/-
  Decimals as the reference reads them: plain arithmetic. For every text.
-/
import Derived.Test.YtoibaeilbolffaaGreatDoorNatDigit
import Derived.Test.YtoibaeilbolffaaGreatDoorNatPrintMath
namespace Go.Proofs.YtoibaeilbolffaaGreatDoor

/-- A byte is a digit. -/
def isD (c : UInt8) : Prop := 48 ≤ c.toNat ∧ c.toNat ≤ 57
instance (c : UInt8) : Decidable (isD c) := by unfold isD; infer_instance
/-- What digits make of a number, however great. -/
def dgs : List UInt8 → Nat → Option Nat
  | [], x => some x
  | c :: l, x => if isD c then dgs l (x * 10 + (c.toNat - 48)) else none
theorem dgs_ge : ∀ (l : List UInt8) (x v : Nat), dgs l x = some v → x * 10 ^ l.length ≤ v
  | [], x, v, h => by simp only [dgs] at h; cases h; simp
  | c :: l, x, v, h => by
    simp only [dgs] at h
    split at h
    · have := dgs_ge l _ v h
      rw [List.length_cons, Nat.pow_succ, Nat.mul_comm (10 ^ l.length) 10, ← Nat.mul_assoc]
      exact Nat.le_trans (Nat.mul_le_mul_right _ (by omega)) this
    · cases h
theorem dgs_lt : ∀ (l : List UInt8) (x v : Nat), dgs l x = some v → v < (x + 1) * 10 ^ l.length
  | [], x, v, h => by simp only [dgs] at h; cases h; simp
  | c :: l, x, v, h => by
    simp only [dgs] at h
    split at h
    · rename_i hc
      have h2 := dgs_lt l _ v h
      unfold isD at hc
      rw [List.length_cons, Nat.pow_succ, Nat.mul_comm (10 ^ l.length) 10, ← Nat.mul_assoc]
      exact Nat.lt_of_lt_of_le h2 (Nat.mul_le_mul_right _ (by omega))
    · cases h
/-- What is below 2^256. -/
def capN (o : Option Nat) : Option Nat := match o with
  | some v => if v < 2 ^ 256 then some v else none
  | none => none
theorem capN_none : capN none = none := rfl
theorem capN_in {v : Nat} (h : v < 2 ^ 256) : capN (some v) = some v := by unfold capN; simp only; rw [if_pos h]
theorem capN_out {v : Nat} (h : ¬ v < 2 ^ 256) : capN (some v) = none := by unfold capN; simp only; rw [if_neg h]
theorem dfold_dgs : ∀ (l : List UInt8) (x : Nat), x < 2 ^ 256 → dfold l x = capN (dgs l x)
  | [], x, hx => by simp only [dfold, dgs]; rw [capN_in hx]
  | c :: l, x, hx => by
    simp only [dfold, dgs]
    by_cases hc : isD c
    · rw [if_pos hc]
      unfold isD at hc
      by_cases hb : x * 10 + (c.toNat - 48) < 2 ^ 256
      · have e : dstep x c = some (x * 10 + (c.toNat - 48)) := by unfold dstep; rw [if_pos ⟨hc.1, hc.2, hb⟩]
        rw [e]
        exact dfold_dgs l _ hb
      · have e : dstep x c = none := by unfold dstep; rw [if_neg (fun h => hb h.2.2)]
        rw [e]
        cases hd : dgs l (x * 10 + (c.toNat - 48)) with
        | none => rfl
        | some v =>
          have := dgs_ge _ _ _ hd
          have h1 : 1 ≤ 10 ^ l.length := Nat.pow_pos (by decide)
          have h2 : (x * 10 + (c.toNat - 48)) * 1 ≤ (x * 10 + (c.toNat - 48)) * 10 ^ l.length := Nat.mul_le_mul_left _ h1
          rw [capN_out (by omega)]
    · rw [if_neg hc]
      have e : dstep x c = none := by
        unfold dstep
        rw [if_neg (fun h => hc ⟨h.1, h.2.1⟩)]
      rw [e]
      rfl
/-- The number whose decimals a text is, as the reference says it. -/
theorem parseN_dgs (s : ByteArray) : parseN s = if s.size = 0 ∨ (1 < s.size ∧ s.data.toList.head? = some 48) then none else capN (dgs s.data.toList 0) := by
  unfold parseN
  split
  · rfl
  · exact dfold_dgs _ _ (by decide)
theorem parse_long (s : ByteArray) (h : 78 < s.size) : parseN s = none := by
  rw [parseN_dgs]
  split
  · rfl
  · rename_i hn
    have hl : s.data.toList.length = s.size := by simp
    cases hs : s.data.toList with
    | nil => rw [hs] at hl; simp at hl; omega
    | cons c l =>
      rw [hs, List.length_cons] at hl
      simp only [dgs]
      by_cases hc : isD c
      · rw [if_pos hc]
        have hc0 : c ≠ 48 := by
          intro h0
          apply hn
          refine .inr ⟨by omega, ?_⟩
          rw [hs, h0]; rfl
        have hc1 : c.toNat ≠ 48 := fun h0 => hc0 (UInt8.toNat_inj.1 (by rw [h0]; rfl))
        unfold isD at hc
        cases hd : dgs l (0 * 10 + (c.toNat - 48)) with
        | none => rfl
        | some v =>
          have h1 := dgs_ge _ _ _ hd
          have h2 : 1 * 10 ^ 78 ≤ (0 * 10 + (c.toNat - 48)) * 10 ^ l.length := Nat.mul_le_mul (by omega) (Nat.pow_le_pow_right (by decide) (by omega))
          have h3 : (2 : Nat) ^ 256 ≤ 1 * 10 ^ 78 := by decide
          rw [capN_out (by omega)]
      · rw [if_neg hc]; rfl
/-- Numbers of few decimals have few digits of 32 bits. -/
theorem ten_pow_le (n : Nat) : 10 ^ n ≤ 2 ^ (4 * n) := by
  rw [Nat.pow_mul]
  exact Nat.pow_le_pow_left (by decide) _
theorem dgs_step {s : List UInt8} {k x : Nat} (hk : k < s.length) (h : dgs (s.drop k) x = dgs s 0) : (isD s[k] → dgs (s.drop (k + 1)) (x * 10 + (s[k].toNat - 48)) = dgs s 0) ∧ (¬ isD s[k] → dgs s 0 = none) := by
  rw [List.drop_eq_getElem_cons hk] at h
  simp only [dgs] at h
  constructor
  · intro hc; rw [if_pos hc] at h; exact h
  · intro hc; rw [if_neg hc] at h; exact h.symm
/-- Decimals are built from the back. -/
theorem dec_cons (y : Nat) (h : 10 ≤ y) (l m : List UInt8) (e : l = Lib.decDigits y ++ m) : l = Lib.decDigits (y / 10) ++ (UInt8.ofNat (48 + y % 10) :: m) := by
  rw [e, dec_step h, List.append_assoc]; rfl
theorem dec_last (y : Nat) (h : y < 10) (l m : List UInt8) (e : l = Lib.decDigits y ++ m) : l = UInt8.ofNat (48 + y % 10) :: m := by
  rw [e, dec_small h, Nat.mod_eq_of_lt h]; rfl
theorem dec_isD : ∀ (n x : Nat), x < n → ∀ c ∈ Lib.decDigits x, isD c
  | 0, x, h => by omega
  | n + 1, x, h => by
    intro c hc
    by_cases h10 : x < 10
    · rw [dec_small h10, List.mem_singleton] at hc
      subst hc
      unfold isD
      rw [UInt8.toNat_ofNat']
      omega
    · rw [dec_step (by omega), List.mem_append, List.mem_singleton] at hc
      rcases hc with hc | hc
      · exact dec_isD n (x / 10) (by omega) c hc
      · subst hc
        unfold isD
        rw [UInt8.toNat_ofNat']
        omega
theorem dgs_app : ∀ (l m : List UInt8) (x : Nat), dgs (l ++ m) x = (match dgs l x with | some y => dgs m y | none => none)
  | [], m, x => by simp [dgs]
  | c :: l, m, x => by
    simp only [List.cons_append, dgs]
    split
    · exact dgs_app l m _
    · rfl
theorem dgs_dec : ∀ (n x : Nat), x < n → dgs (Lib.decDigits x) 0 = some x
  | 0, x, h => by omega
  | n + 1, x, h => by
    by_cases h10 : x < 10
    · rw [dec_small h10]
      have e : (UInt8.ofNat (48 + x)).toNat = 48 + x := by rw [UInt8.toNat_ofNat']; omega
      simp only [dgs]
      rw [if_pos (by unfold isD; omega), e]
      congr 1; omega
    · have e : (UInt8.ofNat (48 + x % 10)).toNat = 48 + x % 10 := by rw [UInt8.toNat_ofNat']; omega
      rw [dec_step (by omega), dgs_app, dgs_dec n (x / 10) (by omega)]
      simp only [dgs]
      rw [if_pos (by unfold isD; omega), e]
      congr 1; omega
theorem dec_head : ∀ (n x : Nat), x < n → x ≠ 0 → ∃ c l, Lib.decDigits x = c :: l ∧ c ≠ 48
  | 0, x, h, _ => by omega
  | n + 1, x, h, h0 => by
    by_cases h10 : x < 10
    · rw [dec_small h10]
      refine ⟨_, [], rfl, ?_⟩
      intro hc
      have := congrArg UInt8.toNat hc
      rw [UInt8.toNat_ofNat', show (48 : UInt8).toNat = 48 from rfl] at this
      omega
    · obtain ⟨c, l, hl, hc⟩ := dec_head n (x / 10) (by omega) (by omega)
      rw [dec_step (by omega), hl]
      exact ⟨c, _, rfl, hc⟩
/-- A number's decimals are read as it. -/
theorem parseN_dec {s : ByteArray} {x : Nat} (hs : s.data.toList = Lib.decDigits x) (hx : x < 2 ^ 256) : parseN s = some x := by
  have hl : s.data.toList.length = s.size := by simp
  have hp := dec_pos x
  rw [parseN_dgs, hs, dgs_dec (x + 1) x (by omega)]
  rw [hs] at hl
  rw [if_neg]
  · exact capN_in hx
  · rintro (h | ⟨h1, h2⟩)
    · omega
    · by_cases h0 : x = 0
      · subst h0
        rw [dec_small (by decide)] at hl
        simp at hl
        omega
      · obtain ⟨c, l, he, hc⟩ := dec_head (x + 1) x (by omega) h0
        rw [he] at h2
        exact hc (Option.some.inj h2)
/-- With a nought ahead it is none. -/
theorem parseN_nought {s : ByteArray} {l : List UInt8} (hs : s.data.toList = 48 :: l) (hl : l ≠ []) : parseN s = none := by
  have h := (show s.data.toList.length = s.size by simp)
  rw [hs, List.length_cons] at h
  unfold parseN
  rw [if_pos]
  refine .inr ⟨?_, by rw [hs]; rfl⟩
  have : 0 < l.length := List.length_pos_iff.2 hl
  omega
end Go.Proofs.YtoibaeilbolffaaGreatDoor
