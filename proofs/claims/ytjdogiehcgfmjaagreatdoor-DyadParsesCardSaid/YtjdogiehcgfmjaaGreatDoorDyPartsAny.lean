/-
  entrepotlaw4.DyadParts answers true for every n, k and sign: the numbers in it.
-/
import Derived.Test.YtjdogiehcgfmjaaGreatDoorDyPartsW
namespace Go.Proofs.YtjdogiehcgfmjaaGreatDoor
open Go.RowKit Go.Shelf

theorem nr_oddz {d m : Nat} (hd : d = 2 * m + 1) {p : Int} (hl : d.log2 ≤ 52) (h1 : -1022 ≤ p + (d.log2 : Nat)) (h2 : p + (d.log2 : Nat) ≤ 1023) :
    nr d p < INF ∧ pw (nr d p) = p ∧ od (nr d p) = d := by
  have h0 : d ≠ 0 := by omega
  obtain ⟨s1, s2, _, s4, s5⟩ := nr_spec (d := d) (p := p) h0 hl h1 h2
  have hb := top_bounds h0 hl
  rw [show (2 : Nat) ^ (52 + 1) = 9007199254740992 from by decide] at hb
  have hdg : dg (nr d p) = d * 2 ^ (52 - d.log2) := by
    rw [← s2]
    unfold dg mg
    rw [dbl_binade, if_neg (by omega), if_neg (by omega)]
    omega
  have hc : Lib.ctz 64 (d * 2 ^ (52 - d.log2)) = 52 - d.log2 := odd_ctz hd (by omega)
  have hne : d * 2 ^ (52 - d.log2) ≠ 0 := by
    have := Nat.mul_pos (show 0 < d by omega) (Nat.two_pow_pos (52 - d.log2))
    omega
  refine ⟨s1, ?_, ?_⟩
  · unfold pw
    rw [hdg, if_neg hne, hc, s5]
    omega
  · unfold od
    rw [hdg, if_neg hne, hc, Nat.mul_div_cancel _ (Nat.two_pow_pos _)]
/-- An odd number by a power of two is a plain float. -/
theorem cls_plain {b s d m K : Nat} (hb : b = s * 9223372036854775808 + nr d (-(K : Int))) (hd : d = 2 * m + 1) (hl : d.log2 ≤ 52) (hK1 : 1 ≤ K) (hK2 : K ≤ 64) :
    cls b = 1 ∧ od b = d ∧ beh b = K ∧ sg b = s := by
  obtain ⟨a, c, e⟩ := nr_oddz hd (p := -(K : Int)) hl (by omega) (by omega)
  have hI : INF = 9218868437227405312 := rfl
  have a' : nr d (-(K : Int)) < 9223372036854775808 := by omega
  obtain ⟨hr, hs⟩ := word_parts (n := s) a'
  rw [← hb] at hr hs
  have hp : pw b = -(K : Int) := by rw [pw_rg, hr, c]
  have ho : od b = d := by rw [od_rg, hr, e]
  have hB : beh b = K := by unfold beh; rw [if_pos (by omega), hp]; omega
  have hw : whl b = none := by unfold whl; rw [if_neg (by rintro ⟨_, h, _⟩; rw [hp] at h; omega)]
  refine ⟨?_, ho, hB, hs⟩
  unfold cls
  rw [if_neg (by omega), if_neg (by omega), hw, hB, if_neg (by decide), if_neg (by omega)]
theorem str_at {X Y : List UInt8} {c : UInt8} : ∃ h : X.length < (str (X ++ c :: Y)).size, (str (X ++ c :: Y))[X.length].toNat = c.toNat := by
  have h : X.length < (str (X ++ c :: Y)).size := by rw [str_size, List.length_append, List.length_cons]; omega
  refine ⟨h, ?_⟩
  rw [byte_at, List.getElem_append_right (Nat.le_refl _)]
  simp
theorem str_pre {X Y : List UInt8} (hX : ∀ c ∈ X, c.toNat ≠ 46) (i : Nat) (hi : i < X.length) : ∃ (h : i < (str (X ++ Y)).size) (x : Nat), (str (X ++ Y))[i].toNat = x ∧ x < 256 ∧ x ≠ 46 := by
  have h : i < (str (X ++ Y)).size := by rw [str_size, List.length_append]; omega
  refine ⟨h, _, rfl, UInt8.toNat_lt _, ?_⟩
  rw [byte_at, List.getElem_append_left hi]
  exact hX _ (List.getElem_mem hi)
/-- What stands ahead of the point and behind it. -/
theorem wpt_form {x K : Nat} (h5 : x % 10 = 5) (hK : 1 ≤ K) : ∃ A B, wpt (Lib.decDigits x) K = A ++ 46 :: (B ++ [53]) ∧ B.length + 1 = K ∧ A ≠ [] ∧ (∀ c ∈ A, dfig c = true) := by
  have hp := padl_len (Lib.decDigits x) K
  have hall := dfig_padl x K
  obtain ⟨l, hl⟩ := dec_end h5
  have hpe : padl (Lib.decDigits x) K = List.replicate (K + 1 - (Lib.decDigits x).length) 48 ++ l ++ [53] := by
    show List.replicate (K + 1 - (Lib.decDigits x).length) 48 ++ Lib.decDigits x = _
    rw [List.append_assoc, ← hl]
  unfold wpt
  generalize padl (Lib.decDigits x) K = P at *
  generalize List.replicate (K + 1 - (Lib.decDigits x).length) 48 ++ l = Q at *
  have hPQ : P.length = Q.length + 1 := by rw [hpe]; simp
  refine ⟨P.take (P.length - K), Q.drop (P.length - K), ?_, ?_, ?_, ?_⟩
  · rw [List.append_assoc, List.singleton_append]
    congr 2
    conv => lhs; rw [hpe]
    rw [List.drop_append_of_le_length (by rw [← hpe]; omega)]
    rw [← hpe]
  · rw [List.length_drop]; omega
  · intro h
    have := congrArg List.length h
    rw [List.length_take, List.length_nil] at this
    omega
  · exact fun c hc => hall c (List.mem_of_mem_take hc)
theorem or_one {a : Nat} : ∃ m, a ||| 1 = 2 * m + 1 ∧ m = a / 2 := by
  refine ⟨a / 2, ?_, rfl⟩
  have h1 := Nat.two_pow_add_eq_or_of_lt (i := 1) (b := a % 2) (by omega) (a / 2)
  have h2 := Nat.two_pow_add_eq_or_of_lt (i := 1) (b := 1) (by decide) (a / 2)
  have e : a = 2 ^ 1 * (a / 2) ||| a % 2 := by rw [← h1]; omega
  have hc : a % 2 ||| 1 = 1 := by
    have : a % 2 = 0 ∨ a % 2 = 1 := by omega
    rcases this with h | h <;> rw [h] <;> rfl
  rw [e, Nat.or_assoc, hc, ← h2]
  rw [← e]
theorem mask53 {r : Nat} (h : r < 18446744073709551616) : bits .or .u64 (bits .and .u64 (r : Int) 9007199254740991) 1 = ((r % 9007199254740992 ||| 1 : Nat) : Int) := by
  have := u64_and_nat r 9007199254740991 h (by decide)
  rw [show ((9007199254740991 : Nat) : Int) = 9007199254740991 from rfl] at this
  rw [this, show (9007199254740991 : Nat) = 2 ^ 53 - 1 from by decide, Nat.and_two_pow_sub_one_eq_mod]
  exact u64_or_nat (r % 2 ^ 53) 1 (Nat.lt_trans (Nat.mod_lt _ (by decide)) (by decide)) (by decide)
theorem or_fraction {F M : Nat} (hF : 1 ≤ F) (hF1 : F < 2048) (h0 : 4503599627370496 ≤ M) (h1 : M < 9007199254740992) :
    bits .or .u64 ((F : Int) * 4503599627370496) (bits .and .u64 (M : Int) 4503599627370495) = (((F - 1) * 4503599627370496 + M : Nat) : Int) := by
  rw [mask_bits (by omega)]
  have h := u64_or_nat (F * 4503599627370496) (M % 4503599627370496) (by omega) (by omega)
  rw [show ((F * 4503599627370496 : Nat) : Int) = (F : Int) * 4503599627370496 from by omega] at h
  rw [h]
  have h2 := Nat.two_pow_add_eq_or_of_lt (i := 52) (b := M % 4503599627370496) (by omega) F
  rw [show (2 : Nat) ^ 52 = 4503599627370496 from by decide, Nat.mul_comm] at h2
  rw [← h2]
  omega
theorem or_sign_b {r : Nat} (h : r < 9223372036854775808) : bits .or .u64 (r : Int) 9223372036854775808 = ((9223372036854775808 + r : Nat) : Int) := by
  have h1 := u64_or_nat r 9223372036854775808 (by omega) (by decide)
  rw [show ((9223372036854775808 : Nat) : Int) = 9223372036854775808 from rfl] at h1
  rw [h1, Nat.or_comm]
  have h2 := Nat.two_pow_add_eq_or_of_lt (i := 63) (b := r) h 1
  rw [show (2 : Nat) ^ 63 = 9223372036854775808 from by decide, Nat.mul_one] at h2
  rw [← h2]
theorem bit_top {d L b : Nat} (h : d < 2 ^ (L + 1)) (hb : L < b) : bits .and .u64 ((d : Int) / 2 ^ b) 1 = 0 := by
  have : d / 2 ^ b = 0 := Nat.div_eq_of_lt (Nat.lt_of_lt_of_le h (Nat.pow_le_pow_right (by decide) (by omega)))
  have e : (d : Int) / 2 ^ b = ((d / 2 ^ b : Nat) : Int) := by rw [Int.natCast_ediv, Int.natCast_pow]; rfl
  rw [e, this]
  decide
theorem bit_one {d L : Nat} (h : d < 2 ^ (L + 1)) (hl : 2 ^ L ≤ d) : bits .and .u64 ((d : Int) / 2 ^ L) 1 = 1 := by
  have : d / 2 ^ L = 1 := by
    have hp := Nat.two_pow_pos L
    rw [Nat.pow_succ] at h
    have a := Nat.div_lt_of_lt_mul (m := d) (n := 2 ^ L) (k := 2) (by omega)
    have c := (Nat.le_div_iff_mul_le hp).2 (show 1 * 2 ^ L ≤ d by omega)
    omega
  have e : (d : Int) / 2 ^ L = ((d / 2 ^ L : Nat) : Int) := by rw [Int.natCast_ediv, Int.natCast_pow]; rfl
  rw [e, this]
  decide
end Go.Proofs.YtjdogiehcgfmjaaGreatDoor
