/-
  NatDigit NatPrintMath DecMath NatDiv64 NatDivMath NatDiv NatPrint NatStr NatParse, one behind the other: a claim holds at most 60 files.
-/
import Derived.Test.YtfaaagmjmljhiaaGreatDoorNatMul
import Derived.Test.YtfaaagmjmljhiaaGreatDoorNatMath
import Derived.Lib.ItoaNum
import Derived.Test.YtfaaagmjmljhiaaGreatDoorShelf
import Derived.Test.YtfaaagmjmljhiaaGreatDoorNatBase
import Derived.Test.YtfaaagmjmljhiaaGreatDoorGL
import Derived.Deep.QuietTactic
import Derived.BigQuiet
import Derived.Lib.ItoaWalk
import Derived.Test.YtfaaagmjmljhiaaGreatDoorNatEq
import Derived.Lib.Repeat
section
namespace Go.Proofs.YtfaaagmjmljhiaaGreatDoor
open Go.RowKit Go.Shelf

abbrev Z4 : Value := .agg #[.int .u64 0, .int .u64 0, .int .u64 0, .int .u64 0]

/-- What a digit makes of a number. -/
def dstep (x : Nat) (c : UInt8) : Option Nat := if 48 ≤ c.toNat ∧ c.toNat ≤ 57 ∧ x * 10 + (c.toNat - 48) < 2 ^ 256 then some (x * 10 + (c.toNat - 48)) else none

/-- What digits make of a number. -/
def dfold : List UInt8 → Nat → Option Nat
  | [], x => some x
  | c :: l, x => match dstep x c with
    | some y => dfold l y
    | none => none
theorem dstep_lt {x y : Nat} {c : UInt8} (h : dstep x c = some y) : y < 2 ^ 256 := by
  unfold dstep at h
  split at h
  · rename_i hh
    obtain rfl := Option.some.inj h
    exact hh.2.2
  · cases h
/-- The number whose decimals a text is. -/
def parseN (s : ByteArray) : Option Nat := if s.size = 0 ∨ (1 < s.size ∧ s.data.toList.head? = some 48) then none else dfold s.data.toList 0


end Go.Proofs.YtfaaagmjmljhiaaGreatDoor
end
section
namespace Go.Proofs.YtfaaagmjmljhiaaGreatDoor

theorem dec_step {u : Nat} (h : 10 ≤ u) : Lib.decDigits u = Lib.decDigits (u / 10) ++ [UInt8.ofNat (48 + u % 10)] := by
  rw [Lib.decDigits, dif_neg (by omega)]
theorem dec_small {u : Nat} (h : u < 10) : Lib.decDigits u = [UInt8.ofNat (48 + u)] := by
  rw [Lib.decDigits, dif_pos h]
/-- A number's digits, with noughts ahead up to k. -/
def pad (k r : Nat) : List UInt8 := List.replicate (k - (Lib.decDigits r).length) 48 ++ Lib.decDigits r
theorem dec_len {k r : Nat} (hk : 1 ≤ k) (h : r < 10 ^ k) : (Lib.decDigits r).length ≤ k := by
  induction k generalizing r with
  | zero => omega
  | succ k ih =>
    by_cases h10 : r < 10
    · rw [dec_small h10]; simp
    · rw [dec_step (by omega), List.length_append, List.length_singleton]
      have hk1 : 1 ≤ k := by
        rcases Nat.eq_zero_or_pos k with h0 | h0
        · subst h0; simp at h; omega
        · exact h0
      have := ih (r := r / 10) hk1 (by rw [Nat.pow_succ] at h; omega)
      omega
theorem dec_pos (r : Nat) : 1 ≤ (Lib.decDigits r).length := by
  by_cases h10 : r < 10
  · rw [dec_small h10]; simp
  · rw [dec_step (by omega)]; simp
theorem pad_step {k r : Nat} (hk : 1 ≤ k) (_h : r < 10 ^ (k + 1)) : pad (k + 1) r = pad k (r / 10) ++ [UInt8.ofNat (48 + r % 10)] := by
  unfold pad
  by_cases h10 : r < 10
  · rw [dec_small h10, show r / 10 = 0 from by omega, show r % 10 = r from by omega, dec_small (show 0 < 10 by decide)]
    have e : List.replicate (k + 1 - 1) (48 : UInt8) = List.replicate (k - 1) 48 ++ [48] := by
      rw [← List.replicate_succ', show k + 1 - 1 = k - 1 + 1 from by omega]
    simp only [List.length_singleton]
    rw [e]
    simp
  · rw [dec_step (by omega), List.length_append, List.length_singleton, show k + 1 - ((Lib.decDigits (r / 10)).length + 1) = k - (Lib.decDigits (r / 10)).length from by omega, List.append_assoc]
theorem dec_split {k q r : Nat} (hk : 1 ≤ k) (hq : 0 < q) (h : r < 10 ^ k) : Lib.decDigits (q * 10 ^ k + r) = Lib.decDigits q ++ pad k r := by
  induction k generalizing r with
  | zero => omega
  | succ k ih =>
    have hp : 0 < 10 ^ k := Nat.pow_pos (by decide)
    have h10 : 10 ≤ q * 10 ^ (k + 1) + r := by
      rw [Nat.pow_succ]
      have : 1 * 1 ≤ q * 10 ^ k := Nat.mul_le_mul hq hp
      rw [← Nat.mul_assoc]
      omega
    have e1 : (q * 10 ^ (k + 1) + r) / 10 = q * 10 ^ k + r / 10 := by rw [Nat.pow_succ, ← Nat.mul_assoc]; omega
    have e2 : (q * 10 ^ (k + 1) + r) % 10 = r % 10 := by rw [Nat.pow_succ, ← Nat.mul_assoc]; omega
    rw [dec_step h10, e1, e2]
    by_cases hk0 : k = 0
    · subst hk0
      simp at h
      rw [show r / 10 = 0 from by omega, Nat.add_zero, Nat.pow_zero, Nat.mul_one, show r % 10 = r from by omega]
      unfold pad
      rw [dec_small h]
      simp
    · rw [ih (by omega) (by rw [Nat.pow_succ] at h; omega), pad_step (by omega) h, List.append_assoc]

end Go.Proofs.YtfaaagmjmljhiaaGreatDoor
end
section
namespace Go.Proofs.YtfaaagmjmljhiaaGreatDoor

/-- A byte is a digit. -/
def isD (c : UInt8) : Prop := 48 ≤ c.toNat ∧ c.toNat ≤ 57
instance (c : UInt8) : Decidable (isD c) := by unfold isD; infer_instance
/-- What digits make of a number, however great. -/
def dgs : List UInt8 → Nat → Option Nat
  | [], x => some x
  | c :: l, x => if isD c then dgs l (x * 10 + (c.toNat - 48)) else none
theorem dgs_ge : ∀ (l : List UInt8) (x v : Nat), dgs l x = some v → x * 10 ^ l.length ≤ v
  | [], x, v, h => by simp only [dgs] at h; cases h; simp
  | c :: l, x, v, h => by
    simp only [dgs] at h
    split at h
    · have := dgs_ge l _ v h
      rw [List.length_cons, Nat.pow_succ, Nat.mul_comm (10 ^ l.length) 10, ← Nat.mul_assoc]
      exact Nat.le_trans (Nat.mul_le_mul_right _ (by omega)) this
    · cases h
theorem dgs_lt : ∀ (l : List UInt8) (x v : Nat), dgs l x = some v → v < (x + 1) * 10 ^ l.length
  | [], x, v, h => by simp only [dgs] at h; cases h; simp
  | c :: l, x, v, h => by
    simp only [dgs] at h
    split at h
    · rename_i hc
      have h2 := dgs_lt l _ v h
      unfold isD at hc
      rw [List.length_cons, Nat.pow_succ, Nat.mul_comm (10 ^ l.length) 10, ← Nat.mul_assoc]
      exact Nat.lt_of_lt_of_le h2 (Nat.mul_le_mul_right _ (by omega))
    · cases h
/-- What is below 2^256. -/
def capN (o : Option Nat) : Option Nat := match o with
  | some v => if v < 2 ^ 256 then some v else none
  | none => none
theorem capN_none : capN none = none := rfl
theorem capN_in {v : Nat} (h : v < 2 ^ 256) : capN (some v) = some v := by unfold capN; simp only; rw [if_pos h]
theorem capN_out {v : Nat} (h : ¬ v < 2 ^ 256) : capN (some v) = none := by unfold capN; simp only; rw [if_neg h]
theorem dfold_dgs : ∀ (l : List UInt8) (x : Nat), x < 2 ^ 256 → dfold l x = capN (dgs l x)
  | [], x, hx => by simp only [dfold, dgs]; rw [capN_in hx]
  | c :: l, x, hx => by
    simp only [dfold, dgs]
    by_cases hc : isD c
    · rw [if_pos hc]
      unfold isD at hc
      by_cases hb : x * 10 + (c.toNat - 48) < 2 ^ 256
      · have e : dstep x c = some (x * 10 + (c.toNat - 48)) := by unfold dstep; rw [if_pos ⟨hc.1, hc.2, hb⟩]
        rw [e]
        exact dfold_dgs l _ hb
      · have e : dstep x c = none := by unfold dstep; rw [if_neg (fun h => hb h.2.2)]
        rw [e]
        cases hd : dgs l (x * 10 + (c.toNat - 48)) with
        | none => rfl
        | some v =>
          have := dgs_ge _ _ _ hd
          have h1 : 1 ≤ 10 ^ l.length := Nat.pow_pos (by decide)
          have h2 : (x * 10 + (c.toNat - 48)) * 1 ≤ (x * 10 + (c.toNat - 48)) * 10 ^ l.length := Nat.mul_le_mul_left _ h1
          rw [capN_out (by omega)]
    · rw [if_neg hc]
      have e : dstep x c = none := by
        unfold dstep
        rw [if_neg (fun h => hc ⟨h.1, h.2.1⟩)]
      rw [e]
      rfl
/-- The number whose decimals a text is, as the reference says it. -/
theorem parseN_dgs (s : ByteArray) : parseN s = if s.size = 0 ∨ (1 < s.size ∧ s.data.toList.head? = some 48) then none else capN (dgs s.data.toList 0) := by
  unfold parseN
  split
  · rfl
  · exact dfold_dgs _ _ (by decide)
theorem parse_long (s : ByteArray) (h : 78 < s.size) : parseN s = none := by
  rw [parseN_dgs]
  split
  · rfl
  · rename_i hn
    have hl : s.data.toList.length = s.size := by simp
    cases hs : s.data.toList with
    | nil => rw [hs] at hl; simp at hl; omega
    | cons c l =>
      rw [hs, List.length_cons] at hl
      simp only [dgs]
      by_cases hc : isD c
      · rw [if_pos hc]
        have hc0 : c ≠ 48 := by
          intro h0
          apply hn
          refine .inr ⟨by omega, ?_⟩
          rw [hs, h0]; rfl
        have hc1 : c.toNat ≠ 48 := fun h0 => hc0 (UInt8.toNat_inj.1 (by rw [h0]; rfl))
        unfold isD at hc
        cases hd : dgs l (0 * 10 + (c.toNat - 48)) with
        | none => rfl
        | some v =>
          have h1 := dgs_ge _ _ _ hd
          have h2 : 1 * 10 ^ 78 ≤ (0 * 10 + (c.toNat - 48)) * 10 ^ l.length := Nat.mul_le_mul (by omega) (Nat.pow_le_pow_right (by decide) (by omega))
          have h3 : (2 : Nat) ^ 256 ≤ 1 * 10 ^ 78 := by decide
          rw [capN_out (by omega)]
      · rw [if_neg hc]; rfl
/-- Numbers of few decimals have few digits of 32 bits. -/
theorem ten_pow_le (n : Nat) : 10 ^ n ≤ 2 ^ (4 * n) := by
  rw [Nat.pow_mul]
  exact Nat.pow_le_pow_left (by decide) _
theorem dgs_step {s : List UInt8} {k x : Nat} (hk : k < s.length) (h : dgs (s.drop k) x = dgs s 0) : (isD s[k] → dgs (s.drop (k + 1)) (x * 10 + (s[k].toNat - 48)) = dgs s 0) ∧ (¬ isD s[k] → dgs s 0 = none) := by
  rw [List.drop_eq_getElem_cons hk] at h
  simp only [dgs] at h
  constructor
  · intro hc; rw [if_pos hc] at h; exact h
  · intro hc; rw [if_neg hc] at h; exact h.symm
/-- Decimals are built from the back. -/
theorem dec_cons (y : Nat) (h : 10 ≤ y) (l m : List UInt8) (e : l = Lib.decDigits y ++ m) : l = Lib.decDigits (y / 10) ++ (UInt8.ofNat (48 + y % 10) :: m) := by
  rw [e, dec_step h, List.append_assoc]; rfl
theorem dec_last (y : Nat) (h : y < 10) (l m : List UInt8) (e : l = Lib.decDigits y ++ m) : l = UInt8.ofNat (48 + y % 10) :: m := by
  rw [e, dec_small h, Nat.mod_eq_of_lt h]; rfl
theorem dec_isD : ∀ (n x : Nat), x < n → ∀ c ∈ Lib.decDigits x, isD c
  | 0, x, h => by omega
  | n + 1, x, h => by
    intro c hc
    by_cases h10 : x < 10
    · rw [dec_small h10, List.mem_singleton] at hc
      subst hc
      unfold isD
      rw [UInt8.toNat_ofNat']
      omega
    · rw [dec_step (by omega), List.mem_append, List.mem_singleton] at hc
      rcases hc with hc | hc
      · exact dec_isD n (x / 10) (by omega) c hc
      · subst hc
        unfold isD
        rw [UInt8.toNat_ofNat']
        omega
theorem dgs_app : ∀ (l m : List UInt8) (x : Nat), dgs (l ++ m) x = (match dgs l x with | some y => dgs m y | none => none)
  | [], m, x => by simp [dgs]
  | c :: l, m, x => by
    simp only [List.cons_append, dgs]
    split
    · exact dgs_app l m _
    · rfl
theorem dgs_dec : ∀ (n x : Nat), x < n → dgs (Lib.decDigits x) 0 = some x
  | 0, x, h => by omega
  | n + 1, x, h => by
    by_cases h10 : x < 10
    · rw [dec_small h10]
      have e : (UInt8.ofNat (48 + x)).toNat = 48 + x := by rw [UInt8.toNat_ofNat']; omega
      simp only [dgs]
      rw [if_pos (by unfold isD; omega), e]
      congr 1; omega
    · have e : (UInt8.ofNat (48 + x % 10)).toNat = 48 + x % 10 := by rw [UInt8.toNat_ofNat']; omega
      rw [dec_step (by omega), dgs_app, dgs_dec n (x / 10) (by omega)]
      simp only [dgs]
      rw [if_pos (by unfold isD; omega), e]
      congr 1; omega
theorem dec_head : ∀ (n x : Nat), x < n → x ≠ 0 → ∃ c l, Lib.decDigits x = c :: l ∧ c ≠ 48
  | 0, x, h, _ => by omega
  | n + 1, x, h, h0 => by
    by_cases h10 : x < 10
    · rw [dec_small h10]
      refine ⟨_, [], rfl, ?_⟩
      intro hc
      have := congrArg UInt8.toNat hc
      rw [UInt8.toNat_ofNat', show (48 : UInt8).toNat = 48 from rfl] at this
      omega
    · obtain ⟨c, l, hl, hc⟩ := dec_head n (x / 10) (by omega) (by omega)
      rw [dec_step (by omega), hl]
      exact ⟨c, _, rfl, hc⟩
/-- A number's decimals are read as it. -/
theorem parseN_dec {s : ByteArray} {x : Nat} (hs : s.data.toList = Lib.decDigits x) (hx : x < 2 ^ 256) : parseN s = some x := by
  have hl : s.data.toList.length = s.size := by simp
  have hp := dec_pos x
  rw [parseN_dgs, hs, dgs_dec (x + 1) x (by omega)]
  rw [hs] at hl
  rw [if_neg]
  · exact capN_in hx
  · rintro (h | ⟨h1, h2⟩)
    · omega
    · by_cases h0 : x = 0
      · subst h0
        rw [dec_small (by decide)] at hl
        simp at hl
        omega
      · obtain ⟨c, l, he, hc⟩ := dec_head (x + 1) x (by omega) h0
        rw [he] at h2
        exact hc (Option.some.inj h2)
/-- With a nought ahead it is none. -/
theorem parseN_nought {s : ByteArray} {l : List UInt8} (hs : s.data.toList = 48 :: l) (hl : l ≠ []) : parseN s = none := by
  have h := (show s.data.toList.length = s.size by simp)
  rw [hs, List.length_cons] at h
  unfold parseN
  rw [if_pos]
  refine .inr ⟨?_, by rw [hs]; rfl⟩
  have : 0 < l.length := List.length_pos_iff.2 hl
  omega
end Go.Proofs.YtfaaagmjmljhiaaGreatDoor
end
section
namespace Go.Proofs.YtfaaagmjmljhiaaGreatDoor
open Go.RowKit Go.Shelf

/-- What a digit's search keeps (Knuth's algorithm D): Q is the digit. -/
structure Search (yn1 yn0 n Q : Int) (Inv : Int → Int → Prop) : Prop where
  bounds : ∀ q r, Inv q r → 0 ≤ q ∧ q ≤ 8589934592 ∧ 0 ≤ r ∧ r < 4294967296
  more : ∀ q r, Inv q r → (4294967296 ≤ q ∨ 4294967296 * r + n < q * yn0) → 1 ≤ q ∧ (r + yn1 < 4294967296 → Inv (q - 1) (r + yn1)) ∧ (4294967296 ≤ r + yn1 → q - 1 = Q)
  done : ∀ q r, Inv q r → q < 4294967296 → q * yn0 ≤ 4294967296 * r + n → q = Q

end Go.Proofs.YtfaaagmjmljhiaaGreatDoor
end
section
namespace Go.Proofs.YtfaaagmjmljhiaaGreatDoor
open Go.RowKit Go.Shelf

/-- The search's invariant. -/
def Inv (yn1 u Q : Int) (q r : Int) : Prop := 0 ≤ Q ∧ Q ≤ q ∧ q ≤ 8589934592 ∧ r = u - q * yn1 ∧ 0 ≤ r ∧ r < 4294967296

theorem search_holds {yn1 yn0 u n Y : Int} (hY : Y = yn1 * 4294967296 + yn0) (h1 : 2147483648 ≤ yn1) (h2 : yn1 < 4294967296) (h3 : 0 ≤ yn0) (h4 : yn0 < 4294967296) (hu0 : 0 ≤ u) (hu : u < Y) (hn0 : 0 ≤ n) (hn : n < 4294967296) :
    Search yn1 yn0 n ((u * 4294967296 + n) / Y) (Inv yn1 u ((u * 4294967296 + n) / Y)) ∧ Inv yn1 u ((u * 4294967296 + n) / Y) (u / yn1) (u - u / yn1 * yn1) ∧ (u * 4294967296 + n) / Y < 4294967296 ∧
    0 ≤ u / yn1 ∧ u / yn1 ≤ 8589934592 ∧ 0 ≤ u / yn1 * yn1 ∧ u / yn1 * yn1 ≤ u := by
  have hYp : 0 < Y := by omega
  have expand : ∀ q : Int, q * Y = q * yn1 * 4294967296 + q * yn0 := fun q => by rw [hY, Int.mul_add, Int.mul_assoc]
  have leQ : ∀ q : Int, q * yn1 * 4294967296 + q * yn0 ≤ u * 4294967296 + n → q ≤ (u * 4294967296 + n) / Y := fun q h => (Int.le_ediv_iff_mul_le hYp).2 (by rw [expand]; exact h)
  have ltQ : ∀ q : Int, u * 4294967296 + n < q * yn1 * 4294967296 + q * yn0 → (u * 4294967296 + n) / Y < q := fun q h => (Int.ediv_lt_iff_lt_mul hYp).2 (by rw [expand]; exact h)
  have hQ0 : 0 ≤ (u * 4294967296 + n) / Y := Int.ediv_nonneg (by omega) (by omega)
  have hQB : (u * 4294967296 + n) / Y < 4294967296 := (Int.ediv_lt_iff_lt_mul hYp).2 (by omega)
  have hQle : (u * 4294967296 + n) / Y * Y ≤ u * 4294967296 + n := Int.ediv_mul_le _ (by omega)
  have hd := Int.ediv_mul_add_emod u yn1
  have hm0 := Int.emod_nonneg u (show yn1 ≠ 0 by omega)
  have hm1 := Int.emod_lt_of_pos u (show 0 < yn1 by omega)
  have hq0 : 0 ≤ u / yn1 := Int.ediv_nonneg hu0 (by omega)
  have hq1 : u / yn1 ≤ 8589934592 := by
    have : u / yn1 < 8589934592 := (Int.ediv_lt_iff_lt_mul (by omega)).2 (by omega)
    omega
  have hp0 : 0 ≤ u / yn1 * yn1 := Int.mul_nonneg hq0 (by omega)
  generalize (u * 4294967296 + n) / Y = Q at *
  refine ⟨⟨?_, ?_, ?_⟩, ?_, hQB, hq0, hq1, hp0, by omega⟩
  · rintro q r ⟨a, b, c, d, e, f⟩
    exact ⟨by omega, c, e, f⟩
  · rintro q r ⟨a, b, c, d, e, f⟩ hc
    have hlt : Q < q := by
      rcases hc with hc | hc
      · omega
      · exact ltQ q (by rw [show q * yn1 = u - r from by omega]; omega)
    have es : (q - 1) * yn1 = q * yn1 - yn1 := by rw [Int.sub_mul, Int.one_mul]
    refine ⟨by omega, fun hr => ⟨a, by omega, by omega, by rw [es]; omega, by omega, hr⟩, fun hr => ?_⟩
    have hlt2 : q - 1 < 4294967296 := by
      have : (q - 1) * yn1 < 4294967296 * yn1 := by rw [es]; omega
      exact Int.lt_of_mul_lt_mul_right this (by omega)
    have hb : (q - 1) * yn0 ≤ 4294967295 * 4294967295 := Int.mul_le_mul (by omega) (by omega) h3 (by omega)
    have := leQ (q - 1) (by rw [es]; omega)
    omega
  · rintro q r ⟨a, b, c, d, e, f⟩ h5 h6
    have := leQ q (by rw [show q * yn1 = u - r from by omega]; omega)
    omega
  · refine ⟨hQ0, ?_, hq1, rfl, by omega, by omega⟩
    refine (Int.le_ediv_iff_mul_le (by omega)).2 ?_
    rw [expand] at hQle
    have : 0 ≤ Q * yn0 := Int.mul_nonneg hQ0 h3
    omega

theorem and_mask (n : Nat) (h : n < 18446744073709551616) : bits .and .u64 (n : Int) 4294967295 = ((n % 4294967296 : Nat) : Int) := by
  have := bits_and_u64_nat n 4294967295 h (by decide)
  rw [show (4294967295 : Nat) = 2 ^ 32 - 1 from by decide, Nat.and_two_pow_sub_one_eq_mod] at this
  exact this

end Go.Proofs.YtfaaagmjmljhiaaGreatDoor
end
section
namespace Go.Proofs.YtfaaagmjmljhiaaGreatDoor
open Go.RowKit Go.Shelf

theorem Row4.put0 {W : World} {b : Nat} {v0 v1 v2 v3 : Value} (h : Row4 W b v0 v1 v2 v3) (u : Value) : Row4 (W.setCell ⟨b, 0, none⟩ u) b u v1 v2 v3 := by
  unfold Row4 at *
  simpa using heap_setCell_same W b 0 _ _ u h
theorem Row4.put1 {W : World} {b : Nat} {v0 v1 v2 v3 : Value} (h : Row4 W b v0 v1 v2 v3) (u : Value) : Row4 (W.setCell ⟨b, 1, none⟩ u) b v0 u v2 v3 := by
  unfold Row4 at *
  simpa using heap_setCell_same W b 1 _ _ u h
theorem Row4.put2 {W : World} {b : Nat} {v0 v1 v2 v3 : Value} (h : Row4 W b v0 v1 v2 v3) (u : Value) : Row4 (W.setCell ⟨b, 2, none⟩ u) b v0 v1 u v3 := by
  unfold Row4 at *
  simpa using heap_setCell_same W b 2 _ _ u h
theorem Row4.put3 {W : World} {b : Nat} {v0 v1 v2 v3 : Value} (h : Row4 W b v0 v1 v2 v3) (u : Value) : Row4 (W.setCell ⟨b, 3, none⟩ u) b v0 v1 v2 u := by
  unfold Row4 at *
  simpa using heap_setCell_same W b 3 _ _ u h

end Go.Proofs.YtfaaagmjmljhiaaGreatDoor
end
section
namespace Go.Proofs.YtfaaagmjmljhiaaGreatDoor
open Go.RowKit Go.Shelf
attribute [local go_sem ↓] eql_nat neq_nat

theorem repeat_replicate (c : Nat) : Lib.repeatL [48] c = List.replicate c 48 := by
  induction c with
  | zero => rfl
  | succ c ih => rw [Lib.repeatL, ih]; rfl

end Go.Proofs.YtfaaagmjmljhiaaGreatDoor
end
section
namespace Go.Proofs.YtfaaagmjmljhiaaGreatDoor
open Go.RowKit Go.Shelf

/-- A number's decimals. -/
def dstr (x : Nat) : ByteArray := ⟨(Lib.decDigits x).toArray⟩
theorem dstr_list (x : Nat) : (dstr x).data.toList = Lib.decDigits x := by
  show (Lib.decDigits x).toArray.toList = _
  simp
theorem dstr_size (x : Nat) : (dstr x).size = (Lib.decDigits x).length := by
  show (Lib.decDigits x).toArray.size = _
  simp
theorem dstr_of {p : ByteArray} {x : Nat} (h : p.data.toList = Lib.decDigits x) : p = dstr x := by
  obtain ⟨⟨l⟩⟩ := p
  unfold dstr
  simp only at h
  rw [← h]
theorem dstr_le {x : Nat} (h : x < 2 ^ 256) : (dstr x).size ≤ 78 := by
  rw [dstr_size]
  exact dec_len (k := 78) (r := x) (by decide) (by omega)
end Go.Proofs.YtfaaagmjmljhiaaGreatDoor
end
section
namespace Go.Proofs.YtfaaagmjmljhiaaGreatDoor
open Go.RowKit Go.Shelf

/-- What nat.Parse answers. -/
def ParseEnd (s : ByteArray) (e : Ending) : Prop := e = match parseN s with
  | some v => .returned (.tuple #[N4 v, .bool true])
  | none => .returned (.tuple #[Z4, .bool false])

theorem toList_data (s : ByteArray) : s.toList = s.data.toList := ByteArray.toList_eq s

end Go.Proofs.YtfaaagmjmljhiaaGreatDoor
end
