/-
  nat.limbAt, nat.Low, nat.Len, nat.Bit: the contracts, for all numbers of four words.
-/
import Derived.Lib.ItoaNum
import Derived.Test.YtjlgiejggcbgbaaGreatDoorNatEq
namespace Go.Proofs.YtjlgiejggcbgbaaGreatDoor
open Go.RowKit Go.Shelf

theorem limb_at0 (a0 a1 a2 a3 : Int) (w : World) : Calls Tryz.prog 84 #[.agg #[.int .u64 a0, .int .u64 a1, .int .u64 a2, .int .u64 a3], .int .i64 0] w fun e w' => e = .returned (.int .u64 a0) ∧ ∃ o : Obj, w' = w.alloc o := by
  go_enter Tryz.func84, Tryz.ntmps84
  go_wp2
  go_ret
  exact ⟨rfl, _, rfl⟩
theorem limb_at1 (a0 a1 a2 a3 : Int) (w : World) : Calls Tryz.prog 84 #[.agg #[.int .u64 a0, .int .u64 a1, .int .u64 a2, .int .u64 a3], .int .i64 1] w fun e w' => e = .returned (.int .u64 a1) ∧ ∃ o : Obj, w' = w.alloc o := by
  go_enter Tryz.func84, Tryz.ntmps84
  go_wp2
  go_ret
  exact ⟨rfl, _, rfl⟩
theorem limb_at2 (a0 a1 a2 a3 : Int) (w : World) : Calls Tryz.prog 84 #[.agg #[.int .u64 a0, .int .u64 a1, .int .u64 a2, .int .u64 a3], .int .i64 2] w fun e w' => e = .returned (.int .u64 a2) ∧ ∃ o : Obj, w' = w.alloc o := by
  go_enter Tryz.func84, Tryz.ntmps84
  go_wp2
  go_ret
  exact ⟨rfl, _, rfl⟩
theorem limb_at3 (a0 a1 a2 a3 : Int) (w : World) : Calls Tryz.prog 84 #[.agg #[.int .u64 a0, .int .u64 a1, .int .u64 a2, .int .u64 a3], .int .i64 3] w fun e w' => e = .returned (.int .u64 a3) ∧ ∃ o : Obj, w' = w.alloc o := by
  go_enter Tryz.func84, Tryz.ntmps84
  go_wp2
  go_ret
  exact ⟨rfl, _, rfl⟩
theorem limb_none (a0 a1 a2 a3 i : Int) (h : i < 0 ∨ 4 ≤ i) (w : World) : Calls Tryz.prog 84 #[.agg #[.int .u64 a0, .int .u64 a1, .int .u64 a2, .int .u64 a3], .int .i64 i] w fun e w' => e = .returned (.int .u64 0) ∧ ∃ o : Obj, w' = w.alloc o := by
  rcases h with h | h
  · go_enter Tryz.func84, Tryz.ntmps84
    go_wp2
    go_ret
    exact ⟨rfl, _, rfl⟩
  · have h' : ¬ i < 0 := by omega
    go_enter Tryz.func84, Tryz.ntmps84
    go_wp2
    go_ret
    exact ⟨rfl, _, rfl⟩
/-- The limb at a place; 0 beyond. -/
def limb (x : Nat) (i : Int) : Int := if i < 0 then 0 else lb i.toNat x
theorem limb_one (x : Nat) (hx : x < 2 ^ 256) (i : Int) (w : World) : Calls Tryz.prog 84 #[N4 x, .int .i64 i] w fun e w' => e = .returned (.int .u64 (limb x i)) ∧ ∃ o : Obj, w' = w.alloc o := by
  by_cases h : i < 0
  · have : limb x i = 0 := by unfold limb; rw [if_pos h]
    rw [this]; exact limb_none _ _ _ _ _ (.inl h) w
  · by_cases h4 : 4 ≤ i
    · have : limb x i = 0 := by
        unfold limb lb; rw [if_neg h]
        have : 2 ^ 256 ≤ 2 ^ (64 * i.toNat) := Nat.pow_le_pow_right (by omega) (by omega)
        rw [Nat.div_eq_of_lt (by omega)]; rfl
      rw [this]; exact limb_none _ _ _ _ _ (.inr h4) w
    · have : i = 0 ∨ i = 1 ∨ i = 2 ∨ i = 3 := by omega
      rcases this with rfl | rfl | rfl | rfl
      · exact limb_at0 _ _ _ _ w
      · exact limb_at1 _ _ _ _ w
      · exact limb_at2 _ _ _ _ w
      · exact limb_at3 _ _ _ _ w

attribute [local go_sem ↓] eql_nat neq_nat
/-- A limb's bit is the number's. -/
theorem lb_bit (q r x : Nat) (hr : r < 64) : decide (lb q x / 2 ^ r % 2 = 1) = x.testBit (64 * q + r) := by
  unfold lb
  have h := Nat.testBit_eq_decide_div_mod_eq (x := x / 2 ^ (64 * q) % 2 ^ 64) (i := r)
  rw [Nat.testBit_mod_two_pow, Nat.testBit_div_two_pow] at h
  rw [Nat.add_comm (64 * q) r]
  simp only [hr, decide_true, Bool.true_and] at h
  rw [h, show (18446744073709551616 : Nat) = 2 ^ 64 from by decide]
  generalize x / 2 ^ (64 * q) % 2 ^ 64 = n
  have e : ((n : Int) / 2 ^ r % 2) = ((n / 2 ^ r % 2 : Nat) : Int) := by
    rw [Int.natCast_emod, Int.natCast_ediv, Int.natCast_pow]; rfl
  rw [e]
  apply decide_eq_decide.2
  omega
theorem len_at3 (a0 a1 a2 a3 : Int) (hne : (a3 != 0) = true) (h0 : 0 ≤ a3) (h1 : a3 ≤ 18446744073709551615) (w : World) : Calls Tryz.prog 65 #[.agg #[.int .u64 a0, .int .u64 a1, .int .u64 a2, .int .u64 a3]] w fun e w' => e = .returned (.int .i64 (192 + (Lib.bitLen a3.toNat : Int))) ∧ ∃ o : Obj, w' = w.alloc o := by
  have hl : Lib.bitLen a3.toNat ≤ 64 := by
    exact Lib.bitLen_le _ 64 (by omega) (by omega)
  go_enter Tryz.func65, Tryz.ntmps65
  go_wp2
  refine wp_loop_rounds 5 ?_
  rw [rounds_succ]
  go_wp2_with (go_at_call 83; refine (Tryz.bits_Len64 a3 _ h0 h1).mono ?_; rintro e w' ⟨rfl, rfl⟩)
  go_ret
  exact ⟨rfl, _, rfl⟩
theorem len_at2 (a0 a1 a2 : Int) (hne : (a2 != 0) = true) (h0 : 0 ≤ a2) (h1 : a2 ≤ 18446744073709551615) (w : World) : Calls Tryz.prog 65 #[.agg #[.int .u64 a0, .int .u64 a1, .int .u64 a2, .int .u64 0]] w fun e w' => e = .returned (.int .i64 (128 + (Lib.bitLen a2.toNat : Int))) ∧ ∃ o : Obj, w' = w.alloc o := by
  have hl : Lib.bitLen a2.toNat ≤ 64 := by
    exact Lib.bitLen_le _ 64 (by omega) (by omega)
  go_enter Tryz.func65, Tryz.ntmps65
  go_wp2
  refine wp_loop_rounds 5 ?_
  rw [rounds_succ]
  go_wp2
  rw [rounds_succ]
  go_wp2_with (go_at_call 83; refine (Tryz.bits_Len64 a2 _ h0 h1).mono ?_; rintro e w' ⟨rfl, rfl⟩)
  go_ret
  exact ⟨rfl, _, rfl⟩
theorem len_at1 (a0 a1 : Int) (hne : (a1 != 0) = true) (h0 : 0 ≤ a1) (h1 : a1 ≤ 18446744073709551615) (w : World) : Calls Tryz.prog 65 #[.agg #[.int .u64 a0, .int .u64 a1, .int .u64 0, .int .u64 0]] w fun e w' => e = .returned (.int .i64 (64 + (Lib.bitLen a1.toNat : Int))) ∧ ∃ o : Obj, w' = w.alloc o := by
  have hl : Lib.bitLen a1.toNat ≤ 64 := by
    exact Lib.bitLen_le _ 64 (by omega) (by omega)
  go_enter Tryz.func65, Tryz.ntmps65
  go_wp2
  refine wp_loop_rounds 5 ?_
  rw [rounds_succ]
  go_wp2
  rw [rounds_succ]
  go_wp2
  rw [rounds_succ]
  go_wp2_with (go_at_call 83; refine (Tryz.bits_Len64 a1 _ h0 h1).mono ?_; rintro e w' ⟨rfl, rfl⟩)
  go_ret
  exact ⟨rfl, _, rfl⟩
theorem len_at0 (a0 : Int) (hne : (a0 != 0) = true) (h0 : 0 ≤ a0) (h1 : a0 ≤ 18446744073709551615) (w : World) : Calls Tryz.prog 65 #[.agg #[.int .u64 a0, .int .u64 0, .int .u64 0, .int .u64 0]] w fun e w' => e = .returned (.int .i64 ((Lib.bitLen a0.toNat : Int))) ∧ ∃ o : Obj, w' = w.alloc o := by
  have hl : Lib.bitLen a0.toNat ≤ 64 := by
    exact Lib.bitLen_le _ 64 (by omega) (by omega)
  go_enter Tryz.func65, Tryz.ntmps65
  go_wp2
  refine wp_loop_rounds 5 ?_
  rw [rounds_succ]
  go_wp2
  rw [rounds_succ]
  go_wp2
  rw [rounds_succ]
  go_wp2
  rw [rounds_succ]
  go_wp2_with (go_at_call 83; refine (Tryz.bits_Len64 a0 _ h0 h1).mono ?_; rintro e w' ⟨rfl, rfl⟩)
  go_ret
  exact ⟨rfl, _, rfl⟩
theorem len_atnone (w : World) : Calls Tryz.prog 65 #[.agg #[.int .u64 0, .int .u64 0, .int .u64 0, .int .u64 0]] w fun e w' => e = .returned (.int .i64 (0)) ∧ ∃ o : Obj, w' = w.alloc o := by
  go_enter Tryz.func65, Tryz.ntmps65
  go_wp2
  refine wp_loop_rounds 5 ?_
  rw [rounds_succ]
  go_wp2
  rw [rounds_succ]
  go_wp2
  rw [rounds_succ]
  go_wp2
  rw [rounds_succ]
  go_wp2
  rw [rounds_succ]
  go_wp2
  go_ret
  exact ⟨rfl, _, rfl⟩

/-- How many bits a number has. -/
def blen (x : Nat) : Nat := if x = 0 then 0 else Nat.log2 x + 1
theorem blen_unique {x L : Nat} (h1 : 1 ≤ L) (h2 : 2 ^ (L - 1) ≤ x) (h3 : x < 2 ^ L) : blen x = L := by
  have hx : x ≠ 0 := by have := Nat.two_pow_pos (L - 1); omega
  unfold blen
  rw [if_neg hx]
  have a := (Nat.le_log2 hx).2 h2
  have b := (Nat.log2_lt hx).2 h3
  omega
theorem blen_spec {x : Nat} (hx : x ≠ 0) : 1 ≤ blen x ∧ 2 ^ (blen x - 1) ≤ x ∧ x < 2 ^ blen x := by
  unfold blen
  rw [if_neg hx]
  exact ⟨by omega, Nat.log2_self_le hx, Nat.lt_log2_self⟩
theorem blen_le {x k : Nat} (h : x < 2 ^ k) : blen x ≤ k := by
  by_cases hx : x = 0
  · subst hx; simp [blen]
  · obtain ⟨h1, h2, h3⟩ := blen_spec hx
    have := (Nat.pow_lt_pow_iff_right (a := 2) (by omega)).1 (Nat.lt_of_le_of_lt h2 h)
    omega
theorem bitLen_blen {a : Nat} (h : a < 18446744073709551616) : Lib.bitLen a = blen a := by
  by_cases ha : a = 0
  · subst ha; simp [blen, Lib.bitLen, Lib.bitLenAux]
  · obtain ⟨h1, h2, h3⟩ := Lib.bitLenAux_bounds 64 a h ha
    exact (blen_unique h1 h2 h3).symm
theorem blen_high {hi lo k : Nat} (hh : hi ≠ 0) (hl : lo < 2 ^ k) : blen (lo + 2 ^ k * hi) = k + blen hi := by
  obtain ⟨h1, h2, h3⟩ := blen_spec hh
  apply blen_unique (by omega)
  · rw [show k + blen hi - 1 = k + (blen hi - 1) from by omega, Nat.pow_add]
    have := Nat.mul_le_mul_left (2 ^ k) h2
    omega
  · rw [Nat.pow_add]
    have : 2 ^ k * (hi + 1) ≤ 2 ^ k * 2 ^ blen hi := Nat.mul_le_mul_left _ h3
    rw [Nat.mul_add, Nat.mul_one] at this
    omega
/-- nat.Len. -/
theorem len_one (x : Nat) (hx : x < 2 ^ 256) (w : World) : Calls Tryz.prog 65 #[N4 x] w fun e w' => e = .returned (.int .i64 (blen x)) ∧ ∃ o : Obj, w' = w.alloc o := by
  have X := lb_sum x hx
  have x0 := lb_word 0 x; have x1 := lb_word 1 x; have x2 := lb_word 2 x; have x3 := lb_word 3 x
  unfold N4
  generalize lb 0 x = a0 at *; generalize lb 1 x = a1 at *; generalize lb 2 x = a2 at *; generalize lb 3 x = a3 at *
  unfold Word at *
  obtain ⟨a0, rfl⟩ := Int.eq_ofNat_of_zero_le x0.1
  obtain ⟨a1, rfl⟩ := Int.eq_ofNat_of_zero_le x1.1
  obtain ⟨a2, rfl⟩ := Int.eq_ofNat_of_zero_le x2.1
  obtain ⟨a3, rfl⟩ := Int.eq_ofNat_of_zero_le x3.1
  unfold val4 at X
  by_cases h3 : a3 = 0
  · subst h3
    by_cases h2 : a2 = 0
    · subst h2
      by_cases h1 : a1 = 0
      · subst h1
        by_cases h0 : a0 = 0
        · subst h0
          refine (len_atnone w).mono ?_
          rintro e w' ⟨rfl, hb⟩
          obtain rfl : x = 0 := by omega
          exact ⟨rfl, hb⟩
        · refine (len_at0 a0 (by simpa using h0) x0.1 (by omega) w).mono ?_
          rintro e w' ⟨rfl, hb⟩
          refine ⟨?_, hb⟩
          obtain rfl : x = a0 := by omega
          rw [Int.toNat_natCast, bitLen_blen (by omega)]
      · refine (len_at1 a0 a1 (by simpa using h1) x1.1 (by omega) w).mono ?_
        rintro e w' ⟨rfl, hb⟩
        refine ⟨?_, hb⟩
        obtain rfl : x = a0 + 2 ^ 64 * a1 := by omega
        rw [Int.toNat_natCast, bitLen_blen (by omega), blen_high (k := 64) h1 (by omega)]; rfl
    · refine (len_at2 a0 a1 a2 (by simpa using h2) x2.1 (by omega) w).mono ?_
      rintro e w' ⟨rfl, hb⟩
      refine ⟨?_, hb⟩
      obtain rfl : x = (a0 + 2 ^ 64 * a1) + 2 ^ 128 * a2 := by omega
      rw [Int.toNat_natCast, bitLen_blen (by omega), blen_high (k := 128) h2 (by omega)]; rfl
  · refine (len_at3 a0 a1 a2 a3 (by simpa using h3) x3.1 (by omega) w).mono ?_
    rintro e w' ⟨rfl, hb⟩
    refine ⟨?_, hb⟩
    obtain rfl : x = (a0 + 2 ^ 64 * a1 + 2 ^ 128 * a2) + 2 ^ 192 * a3 := by omega
    rw [Int.toNat_natCast, bitLen_blen (by omega), blen_high (k := 192) h3 (by omega)]; rfl
theorem len_any (x : Nat) (hx : x < 2 ^ 256) (w : World) : Calls Tryz.prog 65 #[N4 x] w fun e w' => e = .returned (.int .i64 (blen x)) ∧ Below w.heap.size w w' := by
  refine (len_one x hx w).mono ?_
  rintro e w' ⟨rfl, o, rfl⟩
  exact ⟨rfl, bal (Below.refl _ _) _⟩

end Go.Proofs.YtjlgiejggcbgbaaGreatDoor
