/-
  entrepotlaw1.NatPowers: the walk: it answers true for all numbers.
-/
import Derived.Test.YtjoomneaecgfoaaDoorNatTold
import Derived.Lib.ItoaWalk
namespace Go.Proofs.YtjoomneaecgfoaaDoor
open Go.RowKit Go.Shelf
attribute [local go_sem ↓] eql_nat neq_nat

/-- A digit and noughts. -/
def tens (c i : Nat) : List UInt8 := UInt8.ofNat (48 + c) :: List.replicate i 48
theorem tens_succ (c i : Nat) : tens c (i + 1) = tens c i ++ [48] := by
  unfold tens
  rw [List.replicate_succ']; rfl
theorem dstep_nought (x : Nat) : dstep x 48 = if x * 10 < 2 ^ 256 then some (x * 10) else none := by
  unfold dstep
  have e : (48 : UInt8).toNat = 48 := rfl
  rw [e]
  by_cases h : x * 10 < 2 ^ 256
  · rw [if_pos h, if_pos ⟨by omega, by omega, by omega⟩]; rfl
  · rw [if_neg h, if_neg (by omega)]
theorem dfold_noughts (n : Nat) : ∀ x : Nat, x < 2 ^ 256 → dfold (List.replicate n 48) x = if x * 10 ^ n < 2 ^ 256 then some (x * 10 ^ n) else none := by
  induction n with
  | zero => intro x hx; simp [dfold, hx]
  | succ n ih =>
    intro x hx
    rw [List.replicate_succ, dfold, dstep_nought]
    have e : x * 10 ^ (n + 1) = x * 10 * 10 ^ n := by rw [Nat.pow_succ, Nat.mul_comm (10 ^ n), Nat.mul_assoc]
    by_cases h : x * 10 < 2 ^ 256
    · rw [if_pos h]
      show dfold (List.replicate n 48) (x * 10) = _
      rw [ih (x * 10) h, e]
    · rw [if_neg h, e]
      have : x * 10 * 1 ≤ x * 10 * 10 ^ n := Nat.mul_le_mul_left _ (Nat.pow_pos (by decide))
      rw [if_neg (by omega)]
theorem parse_tens (c n : Nat) (h1 : 1 ≤ c) (h9 : c ≤ 9) (s : ByteArray) (hs : s.data.toList = tens c n) : parseN s = if c * 10 ^ n < 2 ^ 256 then some (c * 10 ^ n) else none := by
  have hz : s.size = n + 1 := by
    have : s.data.toList.length = s.size := by simp
    rw [hs] at this
    simp [tens] at this
    omega
  have hc : (UInt8.ofNat (48 + c)).toNat = 48 + c := by rw [UInt8.toNat_ofNat']; omega
  unfold parseN
  rw [if_neg, hs]
  · unfold tens
    rw [dfold]
    have : dstep 0 (UInt8.ofNat (48 + c)) = some c := by
      unfold dstep
      rw [hc, if_pos ⟨by omega, by omega, by omega⟩]
      congr 1; omega
    rw [this]
    exact dfold_noughts n c (by omega)
  · rintro (h | ⟨_, h⟩)
    · omega
    · rw [hs] at h
      have : UInt8.ofNat (48 + c) = 48 := Option.some.inj h
      rw [this] at hc
      have e : (48 : UInt8).toNat = 48 := rfl
      omega
theorem dec_tens (c n : Nat) (h1 : 1 ≤ c) (h9 : c ≤ 9) : Lib.decDigits (c * 10 ^ n) = tens c n := by
  induction n with
  | zero => rw [Nat.pow_zero, Nat.mul_one, dec_small (by omega)]; rfl
  | succ n ih =>
    have hp : 0 < 10 ^ n := Nat.pow_pos (by decide)
    have e : c * 10 ^ (n + 1) = c * 10 ^ n * 10 := by rw [Nat.pow_succ, Nat.mul_assoc]
    have : 1 * 1 ≤ c * 10 ^ n := Nat.mul_le_mul h1 hp
    rw [e, dec_step (by omega), Nat.mul_div_cancel _ (by decide), ih, tens_succ, Nat.mul_mod_left]
    rfl
theorem fits_low {c n : Nat} (h1 : 1 ≤ c) (h : c * 10 ^ n < 2 ^ 256) : n ≤ 77 := by
  refine Nat.le_of_not_lt fun hn => ?_
  have a : 1 * 10 ^ 78 ≤ c * 10 ^ n := Nat.mul_le_mul h1 (Nat.pow_le_pow_right (by decide) hn)
  have b : 2 ^ 256 < 1 * 10 ^ 78 := by decide
  omega
theorem over_high {c n : Nat} (h9 : c ≤ 9) (h : ¬ c * 10 ^ n < 2 ^ 256) : 76 ≤ n := by
  refine Nat.le_of_not_lt fun hn => ?_
  have a : c * 10 ^ n ≤ 9 * 10 ^ 75 := Nat.mul_le_mul h9 (Nat.pow_le_pow_right (by decide) (by omega))
  have b : 9 * 10 ^ 75 < 2 ^ 256 := by decide
  omega

/-- What the number is behind i rounds. -/
def powA (c i : Nat) : Nat := if c * 10 ^ i < 2 ^ 256 then c * 10 ^ i else 0
def powB (c i : Nat) : Bool := decide (c * 10 ^ i < 2 ^ 256)
theorem powA_lt (c i : Nat) : powA c i < 2 ^ 256 := by
  unfold powA
  split
  · assumption
  · decide
/-- One more round: nat.Mul by ten. -/
theorem pow_step (c i : Nat) : ∃ b : Bool, (powB c i && b) = powB c (i + 1) ∧ ∀ W : World, Calls Tryd.prog 14 #[N4 (powA c i), .int .u64 10] W fun e w' => e = .returned (.tuple #[N4 (powA c (i + 1)), .bool b]) ∧ Below W.heap.size W w' := by
  have e : c * 10 ^ (i + 1) = c * 10 ^ i * 10 := by rw [Nat.pow_succ, Nat.mul_assoc]
  by_cases h : c * 10 ^ i < 2 ^ 256
  · have a1 : powA c i = c * 10 ^ i := if_pos h
    by_cases h2 : c * 10 ^ i * 10 < 2 ^ 256
    · have a2 : powA c (i + 1) = c * 10 ^ i * 10 := by unfold powA; rw [e, if_pos h2]
      refine ⟨true, by unfold powB; rw [e]; simp [h, h2], fun W => ?_⟩
      rw [a1, a2]
      exact mul_ok _ 10 h (by decide) h2 W
    · have a2 : powA c (i + 1) = 0 := by unfold powA; rw [e, if_neg h2]
      refine ⟨false, by unfold powB; rw [e]; simp [h2], fun W => ?_⟩
      rw [a1, a2]
      exact mul_over _ 10 h (by decide) h2 W
  · have a1 : powA c i = 0 := if_neg h
    have h2 : ¬ c * 10 ^ i * 10 < 2 ^ 256 := by omega
    have a2 : powA c (i + 1) = 0 := by unfold powA; rw [e, if_neg h2]
    refine ⟨true, by unfold powB; rw [e]; simp [h, h2], fun W => ?_⟩
    rw [a1, a2]
    exact mul_ok 0 10 (by decide) (by decide) (by decide) W

theorem slice_digit (c : Nat) (hc : c ≤ 8) : ∀ W, (Instr.slice 9 (.string ⟨#[48, 49, 50, 51, 52, 53, 54, 55, 56, 57]⟩) (some (.int .i64 (1 + (c : Int)))) (some (.int .i64 (1 + (c : Int) + 1))) none).run Tryd.prog W = .ok (.string ⟨#[UInt8.ofNat (48 + (1 + c))]⟩) W := by
  have : c = 0 ∨ c = 1 ∨ c = 2 ∨ c = 3 ∨ c = 4 ∨ c = 5 ∨ c = 6 ∨ c = 7 ∨ c = 8 := by omega
  rcases this with rfl | rfl | rfl | rfl | rfl | rfl | rfl | rfl | rfl
  all_goals (intro W; kernel_rfl)

set_option maxHeartbeats 2000000 in
set_option maxRecDepth 100000 in
theorem powers_core (k d : Int) (n c : Nat) (hn : n ≤ 90) (hc : c ≤ 8) (e1 : (IntKind.u64.wrap k).tmod 91 = (n : Int)) (e2 : (IntKind.u64.wrap d).tmod 9 = (c : Int)) (w : World) (htab : Tab w) :
    Calls Tryd.prog 9 #[.int .i64 k, .int .i64 d] w fun e w' => e = .returned (.bool true) ∧ Below w.heap.size w w' := by
  have HT := Lib.hid htab; clear htab
  have hsl := slice_digit c hc
  obtain ⟨s0, hs0⟩ : ∃ s0 : ByteArray, s0 = ⟨#[UInt8.ofNat (48 + (1 + c))]⟩ := ⟨_, rfl⟩
  rw [← hs0] at hsl
  have HS0 : Hid (s0.data.toList = tens (1 + c) 0) := by show s0.data.toList = _; rw [hs0]; rfl
  have hz0 : s0.size = 1 := by rw [hs0]; rfl
  have HZ0 := Lib.hid hz0
  clear hs0 hz0
  go_enter Tryd.func9, Tryd.ntmps9
  go_wp2_with fail
  refine (of_any _ _).mono ?_
  rintro e w1 ⟨rfl, hb⟩
  have B1 := btr (Below.refl _ w) hb
  have hsz := hb.size
  clear hb e1 e2 hsl
  go_wp2
  go_loopw [10, 7, 9] (fun v10 v7 v9 wr => ∃ (i : Nat) (t : ByteArray) (B : Bool), v10 = .int .i64 i ∧ v7 = .string t ∧ v9 = .bool B ∧ Hid (B = powB (1 + c) i) ∧ i ≤ n ∧ t.size ≤ 1 + i ∧ Hid (t.data.toList = tens (1 + c) i) ∧ Row4 wr w1.heap.size (.int .u64 (lb 0 (powA (1 + c) i))) (.int .u64 (lb 1 (powA (1 + c) i))) (.int .u64 (lb 2 (powA (1 + c) i))) (.int .u64 (lb 3 (powA (1 + c) i))) ∧ Below w.heap.size w wr) (fun v10 _ _ _ => n - (intOf v10).toNat)
  case atStart =>
    refine ⟨0, s0, true, rfl, rfl, rfl, ?_, Nat.zero_le _, by rw [HZ0.out]; omega, HS0, ?_, bal B1 _⟩
    · show true = powB (1 + c) 0
      unfold powB
      exact (decide_eq_true (by omega)).symm
    · have ea : powA (1 + c) 0 = 1 + c := by unfold powA; rw [Nat.pow_zero, Nat.mul_one, if_pos (by omega)]
      rw [ea, show lb 0 (1 + c) = 1 + (c : Int) from by rw [lb0]; omega, show lb 1 (1 + c) = 0 from by rw [lb1]; omega, show lb 2 (1 + c) = 0 from by rw [lb2]; omega, show lb 3 (1 + c) = 0 from by rw [lb3]; omega]
      exact Row4.new _ _ _ _ _
  case round =>
    obtain ⟨i, t, B, rfl, rfl, rfl, HB, hi, ht, HTt, R, hw⟩ := hrel
    rename World => wr
    obtain ⟨t0, t1, t2, t3, tf0, tf1, tf2, tf3⟩ := R.parts
    by_cases hlt : i < n
    · obtain ⟨b, hb1, hC⟩ := pow_step (1 + c) i
      rw [← HB.out] at hb1
      have HC := Lib.hid hC
      have HB1 := Lib.hid hb1
      have hblk : w.heap.size ≤ w1.heap.size := hsz
      clear hC hb1 HB HS0 HZ0
      cases B <;> cases b
      all_goals
        go_wp2_with fail
        (with_reducible refine (HC.out _).mono ?_)
        rintro e w2 ⟨rfl, hb⟩
        have R2 := Row4.keep hb R
        have hw2 := btr hw hb
        obtain ⟨u0, u1, u2, u3, uf0, uf1, uf2, uf3⟩ := R2.parts
        clear hb t0 t1 t2 t3 tf0 tf1 tf2 tf3 R hw
        go_wp2
        go_roundw
        case rel => exact ⟨i + 1, t ++ ⟨#[48]⟩, _, by go_num, rfl, rfl, HB1.out, by omega, by rw [ByteArray.size_append]; show t.size + 1 ≤ _; omega, by show (t ++ ⟨#[48]⟩).data.toList = _; rw [tens_succ, ← HTt.out]; simp, Row4.set4 R2 _ _ _ _, bsc4 hw2 hblk _ _ _ _⟩
        case measure => simp [intOf]; omega
    · obtain rfl : i = n := by omega
      have hP := parse_tens (1 + c) i (by omega) (by omega) t HTt.out
      cases B with
      | true =>
        have hfit : (1 + c) * 10 ^ i < 2 ^ 256 := of_decide_eq_true HB.out.symm
        have ha : powA (1 + c) i = (1 + c) * 10 ^ i := if_pos hfit
        have h77 : (i : Int) ≤ 77 := by have := fits_low (by omega) hfit; omega
        have hc1 : ∀ W, Calls Tryd.prog 36 #[.string t] W fun e w' => e = .returned (.tuple #[N4 (powA (1 + c) i), .bool true]) ∧ Below W.heap.size W w' := fun W => by
          refine (parse_any W t (by omega)).mono ?_
          rintro e w' ⟨he, hb⟩
          unfold ParseEnd at he
          rw [hP, if_pos hfit] at he
          rw [ha]
          exact ⟨he, hb⟩
        have hc2 : ∀ W, Tab W → Calls Tryd.prog 38 #[N4 (powA (1 + c) i)] W fun e w' => (∃ p : ByteArray, e = .returned (.string p) ∧ (p.toList == t.toList) = true) ∧ Below W.heap.size W w' := fun W hW => by
          refine (print_any (powA (1 + c) i) (powA_lt _ _) W hW).mono ?_
          rintro e w' ⟨⟨p, he, hp⟩, hb⟩
          refine ⟨⟨p, he, ?_⟩, hb⟩
          rw [toList_data, toList_data, hp, ha, dec_tens (1 + c) i (by omega) (by omega), HTt.out]
          simp
        have hq := eq4_nat (powA (1 + c) i) (powA (1 + c) i) (powA_lt _ _) (powA_lt _ _)
        rw [decide_eq_true rfl] at hq
        have C1 := Lib.hid hc1; have C2 := Lib.hid hc2
        clear hc1 hc2 hP hfit ha HB HS0 HZ0 t0 t1 t2 t3 tf0 tf1 tf2 tf3
        generalize powA (1 + c) i = a at *
        go_wp2_with fail
        (with_reducible refine (C1.out _).mono ?_)
        rintro e w2 ⟨rfl, hb⟩
        have R2 := Row4.alloc (Row4.keep hb R) (.cells #[.int .u64 (lb 0 a), .int .u64 (lb 1 a), .int .u64 (lb 2 a), .int .u64 (lb 3 a)] 24)
        have hw2 := btr hw hb
        clear hb R hw
        go_wp2_with fail
        refine (told_true _ (tab_on HT.out (bal hw2 _))).mono ?_
        rintro e w3 ⟨rfl, hb⟩
        obtain ⟨t0, t1, t2, t3, t4⟩ := (Row4.keep hb R2).parts
        obtain ⟨u0, u1, u2, u3, u4⟩ := (Row4.keep hb (Row4.new w2 _ _ _ _)).parts
        have hw3 := btr (bal hw2 _) hb
        clear hb R2 t4 u4 hw2
        go_wp2_with fail
        (with_reducible refine (C2.out _ (tab_on HT.out hw3)).mono ?_)
        rintro e w4 ⟨⟨p, rfl, hp⟩, hb⟩
        have hw4 := btr hw3 hb
        clear hb t0 t1 t2 t3 u0 u1 u2 u3
        go_wp2
        go_ret
        exact ⟨rfl, hw4⟩
      | false =>
        have hfit : ¬ (1 + c) * 10 ^ i < 2 ^ 256 := of_decide_eq_false HB.out.symm
        have h76 : (76 : Int) ≤ (i : Int) := by have := over_high (show 1 + c ≤ 9 by omega) hfit; omega
        have hc1 : ∀ W, Calls Tryd.prog 36 #[.string t] W fun e w' => e = .returned (.tuple #[Z4, .bool false]) ∧ Below W.heap.size W w' := fun W => by
          refine (parse_any W t (by omega)).mono ?_
          rintro e w' ⟨he, hb⟩
          unfold ParseEnd at he
          rw [hP, if_neg hfit] at he
          exact ⟨he, hb⟩
        have C1 := Lib.hid hc1
        clear hc1 hP hfit HB HS0 HZ0 t0 t1 t2 t3 tf0 tf1 tf2 tf3 R
        go_wp2_with fail
        (with_reducible refine (C1.out _).mono ?_)
        rintro e w2 ⟨rfl, hb⟩
        have hw2 := btr hw hb
        clear hb
        go_wp2_with fail
        refine (told_true _ (tab_on HT.out (bal hw2 _))).mono ?_
        rintro e w3 ⟨rfl, hb⟩
        have hw3 := btr (bal hw2 _) hb
        clear hb
        go_wp2
        go_ret
        exact ⟨rfl, hw3⟩

theorem powers_any (k d : Int) (w : World) (htab : Tab w) :
    Calls Tryd.prog 9 #[.int .i64 k, .int .i64 d] w fun e w' => e = .returned (.bool true) ∧ Below w.heap.size w w' := by
  have t1 : ∀ (z m : Int), 0 < m → (IntKind.u64.wrap z).tmod m = (((z % 18446744073709551616) % m).toNat : Int) := fun z m hm => by
    rw [IntKind.wrap_u64, Int.tmod_eq_emod_of_nonneg (Int.emod_nonneg _ (by decide))]
    have := Int.emod_nonneg (z % 18446744073709551616) (show m ≠ 0 by omega)
    omega
  exact powers_core k d ((k % 18446744073709551616) % 91).toNat ((d % 18446744073709551616) % 9).toNat (by omega) (by omega) (t1 k 91 (by decide)) (t1 d 9 (by decide)) w htab

end Go.Proofs.YtjoomneaecgfoaaDoor
