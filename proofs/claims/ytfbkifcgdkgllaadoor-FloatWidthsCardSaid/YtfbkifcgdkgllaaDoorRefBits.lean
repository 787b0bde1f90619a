/-
  The reference's Bit, Len, Trail, Pow: the contracts.
-/
import Derived.Test.YtfbkifcgdkgllaaDoorRefApi
import Derived.Test.YtfbkifcgdkgllaaDoorNatTrail
namespace Go.Proofs.YtfbkifcgdkgllaaDoor
open Go.RowKit Go.Shelf

/-- A bit of a number; none at a place below 0. -/
def bitv (x : Nat) (i : Int) : Bool := decide (0 ≤ i) && x.testBit i.toNat
theorem rbit_neg (A : Option Addr) (n c : Nat) (i : Int) (h : i < 0) (w : World) :
    Calls Tryd.prog 22 #[.slice A n c, .int .i64 i] w fun e w' => e = .returned (.bool false) ∧ w' = w := by
  go_enter Tryd.func22, Tryd.ntmps22
  go_wp2
  go_ret
  exact ⟨rfl, rfl⟩
set_option maxRecDepth 100000 in
theorem rbit_out (A : Option Addr) (n c : Nat) (i : Int) (q : Int) (h0 : 0 ≤ i) (h1 : i ≤ 9223372036854775807) (hq : i / 32 = q) (h : (n : Int) ≤ q) (w : World) :
    Calls Tryd.prog 22 #[.slice A n c, .int .i64 i] w fun e w' => e = .returned (.bool false) ∧ w' = w := by
  go_enter Tryd.func22, Tryd.ntmps22
  go_wp2
  go_ret
  exact ⟨rfl, rfl⟩
set_option maxRecDepth 100000 in
theorem rbit_in (b off n c q r : Nat) (i d e : Int) (h0 : 0 ≤ i) (h1 : i ≤ 9223372036854775807) (hq : i / 32 = (q : Int)) (hr : i % 32 = (r : Int)) (h : q < n) (w : World) (hc : w.cell? ⟨b, off + q, none⟩ = some (.int .u32 d)) (he : bits .and .u32 (d / 2 ^ r) 1 = e) :
    Calls Tryd.prog 22 #[.slice (some ⟨b, off, none⟩) n c, .int .i64 i] w fun e' w' => e' = .returned (.bool (e == 1)) ∧ w' = w := by
  have b0 : (0 : Int) ≤ (q : Int) := by omega
  have b1 : (q : Int) < (n : Int) := by omega
  have b2 : (0 : Int) ≤ (r : Int) := by omega
  have b3 : (r : Int) ≤ 32 := by omega
  have t1 : ((q : Int)).toNat = q := Int.toNat_natCast q
  have t2 : ((r : Int)).toNat = r := Int.toNat_natCast r
  go_enter Tryd.func22, Tryd.ntmps22
  go_wp2
  go_ret
  exact ⟨rfl, rfl⟩
theorem big_bit {x i : Nat} (h : x < 2 ^ i) : x.testBit i = false := Nat.testBit_lt_two_pow h
theorem rbit {s : Value} {x : Nat} {w : World} (h : DR w s x) (i : Int) (hi : i ≤ 9223372036854775807) :
    Calls Tryd.prog 22 #[s, .int .i64 i] w fun e w' => e = .returned (.bool (bitv x i)) ∧ w' = w := by
  unfold bitv
  by_cases h0 : i < 0
  · obtain ⟨A, c, rfl, _⟩ := h.form
    rw [decide_eq_false (by omega), Bool.false_and]
    exact rbit_neg A _ c i h0 w
  · rw [decide_eq_true (by omega), Bool.true_and]
    obtain ⟨k, rfl⟩ := Int.eq_ofNat_of_zero_le (Int.not_lt.1 h0)
    rw [Int.toNat_natCast]
    by_cases hl : (digs x).length ≤ k / 32
    · obtain ⟨A, c, rfl, _⟩ := h.form
      have hx := digs_len.1 hl
      have : x < 2 ^ k := Nat.lt_of_lt_of_le hx (Nat.pow_le_pow_right (by decide) (by omega))
      rw [big_bit this]
      exact rbit_out A _ c k ((k / 32 : Nat) : Int) (by omega) hi (by omega) (by omega) w
    · rcases h with ⟨hn, A, c, rfl⟩ | ⟨b, off, c, rfl, hc, hlt, hcs⟩
      · rw [hn] at hl; exact absurd (Nat.zero_le _) hl
      · have hcell := hcs (k / 32) (by omega)
        rw [digs_get] at hcell
        have hd : x / 2 ^ (32 * (k / 32)) % 4294967296 < 4294967296 := Nat.mod_lt _ (by decide)
        have hbit : (x / 2 ^ (32 * (k / 32)) % 4294967296).testBit (k % 32) = x.testBit k := by
          rw [show (4294967296 : Nat) = 2 ^ 32 from by decide, Nat.testBit_mod_two_pow, decide_eq_true (show k % 32 < 32 by omega), Bool.true_and, Nat.testBit_div_two_pow]
          congr 1
          omega
        generalize x / 2 ^ (32 * (k / 32)) % 4294967296 = d at *
        have he : bits .and .u32 ((d : Int) / 2 ^ (k % 32)) 1 = ((d / 2 ^ (k % 32) % 2 : Nat) : Int) := by
          have h1 := u32_and_nat (d / 2 ^ (k % 32)) 1 (Nat.lt_of_le_of_lt (Nat.div_le_self _ _) hd) (by decide)
          rw [nat_mask1] at h1
          rw [← h1, Int.natCast_ediv, Int.natCast_pow]; rfl
        refine (rbit_in b off _ c (k / 32) (k % 32) k _ _ (by omega) hi (by omega) (by omega) (by omega) w hcell he).mono ?_
        rintro e' w' ⟨rfl, hw⟩
        refine ⟨?_, hw⟩
        congr 2
        rw [← hbit, Nat.testBit_eq_decide_div_mod_eq, Bool.eq_iff_iff, beq_iff_eq, decide_eq_true_eq]
        omega
theorem top_bit {x k : Nat} (h : x < 2 ^ (k + 1)) (hb : x.testBit k = false) : x < 2 ^ k := by
  rw [Nat.testBit_eq_decide_div_mod_eq, decide_eq_false_iff_not] at hb
  have h2 : x / 2 ^ k < 2 := Nat.div_lt_of_lt_mul (by rw [← Nat.pow_succ]; exact h)
  have h3 : x / 2 ^ k = 0 := by
    generalize x / 2 ^ k = q at hb h2
    omega
  exact (Nat.div_eq_zero_iff_lt (Nat.two_pow_pos k)).1 h3
theorem set_bit {x k : Nat} (hb : x.testBit k = true) : 2 ^ k ≤ x := by
  apply Decidable.byContradiction
  intro h
  rw [big_bit (by omega)] at hb
  cases hb
set_option maxHeartbeats 1000000 in
set_option maxRecDepth 100000 in
theorem rlen_core (A : Option Addr) (n c x : Nat) (hn : n = (digs x).length) (hn1 : n ≤ 1000) (w : World) (h : DR w (.slice A n c) x) :
    Calls Tryd.prog 12 #[.slice A n c] w fun e w' => e = .returned (.int .i64 (blen x)) ∧ w' = w := by
  have HN := Lib.hid hn; have HX := Lib.hid h; clear hn h
  go_enter Tryd.func12, Tryd.ntmps12
  go_wp2
  go_loop [3] (fun v => ∃ k : Nat, v = .int .i64 (k : Int) ∧ k ≤ 32 * n ∧ Hid (x < 2 ^ k)) (fun v => (intOf v).toNat)
  case atStart => exact ⟨32 * n, by (congr 1; omega), Nat.le_refl _, digs_len.1 (Nat.le_of_eq HN.out.symm)⟩
  case round =>
    obtain ⟨k, rfl, hk, HI⟩ := hrel
    by_cases h0 : k = 0
    · subst h0
      have hb : blen x = 0 := by
        have := HI.out
        simp at this
        subst this
        rfl
      have HB := Lib.hid hb; clear hb
      go_wp2
      go_ret
      exact ⟨by rw [HB.out]; rfl, rfl⟩
    · obtain ⟨j, rfl⟩ : ∃ j, k = j + 1 := ⟨k - 1, by omega⟩
      have hc := rbit HX.out (j : Int) (by omega)
      have e1 : bitv x (j : Int) = x.testBit j := by
        unfold bitv
        rw [decide_eq_true (by omega), Bool.true_and, Int.toNat_natCast]
      rw [e1] at hc
      clear h0 e1
      cases hb : x.testBit j with
      | false =>
        rw [hb] at hc
        have HT : Hid (x < 2 ^ j) := top_bit HI.out hb
        have HC := Lib.hid hc; clear hc hb
        have hp : 0 < j + 1 := by omega
        go_wp2_with fail
        (with_reducible refine HC.out.mono ?_)
        rintro e w1 ⟨rfl, hw⟩
        rw [hw]; clear hw w1
        go_wp2
        go_round
        case rel => exact ⟨j, by go_num, by omega, HT⟩
        case measure => simp [intOf]
      | true =>
        rw [hb] at hc
        have hbl : blen x = j + 1 := blen_unique (by omega) (by rw [Nat.add_sub_cancel]; exact set_bit hb) HI.out
        have HL := Lib.hid hbl
        have HC := Lib.hid hc; clear hc hb hbl
        have hp : 0 < j + 1 := by omega
        go_wp2_with fail
        (with_reducible refine HC.out.mono ?_)
        rintro e w1 ⟨rfl, hw⟩
        rw [hw]; clear hw w1
        go_wp2
        go_ret
        exact ⟨by rw [HL.out]; rfl, rfl⟩
theorem rlen {s : Value} {x : Nat} {w : World} (h : DR w s x) (lx : (digs x).length ≤ 1000) :
    Calls Tryd.prog 12 #[s] w fun e w' => e = .returned (.int .i64 (blen x)) ∧ w' = w := by
  obtain ⟨A, c, rfl, _⟩ := h.form
  exact rlen_core A _ c x rfl lx w h
set_option maxHeartbeats 1000000 in
set_option maxRecDepth 100000 in
theorem rtrail_zero {s : Value} {w : World} (h : DR w s 0) :
    Calls Tryd.prog 20 #[s] w fun e w' => e = .returned (.int .i64 256) ∧ w' = w := by
  have hl := rlen h (by rw [digs_zero]; exact Nat.zero_le _)
  rw [show blen 0 = 0 from rfl] at hl
  have HL := Lib.hid hl; clear hl
  go_enter Tryd.func20, Tryd.ntmps20
  go_wp2_with fail
  refine HL.out.mono ?_
  rintro e w1 ⟨rfl, hw⟩
  rw [hw]; clear hw w1
  go_wp2
  go_ret
  exact ⟨rfl, rfl⟩
theorem low_bits {x k m j : Nat} (e : x = 2 ^ k * (2 * m + 1)) : (j < k → x.testBit j = false) ∧ x.testBit k = true := by
  constructor
  · intro h
    rw [e, Nat.testBit_two_pow_mul, decide_eq_false (by omega), Bool.false_and]
  · rw [e, Nat.testBit_two_pow_mul, decide_eq_true (Nat.le_refl _), Bool.true_and, Nat.sub_self, Nat.testBit_eq_decide_div_mod_eq]
    simp
set_option maxHeartbeats 1000000 in
set_option maxRecDepth 100000 in
theorem rtrail {s : Value} {x k m : Nat} {w : World} (h : DR w s x) (lx : (digs x).length ≤ 1000) (e : x = 2 ^ k * (2 * m + 1)) (hk : k ≤ 100000) :
    Calls Tryd.prog 20 #[s] w fun e w' => e = .returned (.int .i64 k) ∧ w' = w := by
  have hl := rlen h lx
  have hx : x ≠ 0 := by
    rw [e]
    have := Nat.mul_pos (Nat.two_pow_pos k) (show 0 < 2 * m + 1 by omega)
    omega
  obtain ⟨B, hB⟩ : ∃ B, B = blen x := ⟨_, rfl⟩
  have hB0 : ((B : Int) == 0) = false := by
    have := (blen_spec hx).1
    rw [beq_eq_false_iff_ne]; omega
  rw [← hB] at hl
  have HL := Lib.hid hl; have HE := Lib.hid e; have HX := Lib.hid h; clear hl e hx hB h
  go_enter Tryd.func20, Tryd.ntmps20
  go_wp2_with fail
  refine HL.out.mono ?_
  rintro e w1 ⟨rfl, hw⟩
  rw [hw]; clear hw w1
  go_wp2
  go_loop [3] (fun v => ∃ j : Nat, v = .int .i64 (j : Int) ∧ j ≤ k) (fun v => k - (intOf v).toNat)
  case atStart => exact ⟨0, rfl, Nat.zero_le _⟩
  case round =>
    obtain ⟨j, rfl, hj⟩ := hrel
    have hc := rbit HX.out (j : Int) (by omega)
    have e1 : bitv x (j : Int) = x.testBit j := by
      unfold bitv
      rw [decide_eq_true (by omega), Bool.true_and, Int.toNat_natCast]
    rw [e1] at hc
    clear e1
    by_cases h1 : j < k
    · rw [(low_bits (j := j) HE.out).1 h1] at hc
      have HC := Lib.hid hc; clear hc
      go_wp2_with fail
      (with_reducible refine HC.out.mono ?_)
      rintro e w1 ⟨rfl, hw⟩
      rw [hw]; clear hw w1
      go_wp2
      go_round
      case rel => exact ⟨j + 1, by go_num, by omega⟩
      case measure => simp [intOf]; omega
    · obtain rfl : j = k := by omega
      rw [(low_bits (j := j) HE.out).2] at hc
      have HC := Lib.hid hc; clear hc
      go_wp2_with fail
      (with_reducible refine HC.out.mono ?_)
      rintro e w1 ⟨rfl, hw⟩
      rw [hw]; clear hw w1
      go_wp2
      go_ret
      exact ⟨rfl, rfl⟩
end Go.Proofs.YtfbkifcgdkgllaaDoor
