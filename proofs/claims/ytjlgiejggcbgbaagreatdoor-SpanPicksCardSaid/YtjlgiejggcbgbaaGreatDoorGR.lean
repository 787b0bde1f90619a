/-
  RefBits RefPow RefShr RefNear ExWalk NearMath ExAny, one behind the other: a claim holds at most 60 files.
-/
import Derived.Test.YtjlgiejggcbgbaaGreatDoorSW
import Derived.Test.YtjlgiejggcbgbaaGreatDoorNatTrail
import Derived.Deep.AppendLies
import Derived.Test.YtjlgiejggcbgbaaGreatDoorWholeH
section
namespace Go.Proofs.YtjlgiejggcbgbaaGreatDoor
open Go.RowKit Go.Shelf

/-- A bit of a number; none at a place below 0. -/
def bitv (x : Nat) (i : Int) : Bool := decide (0 ≤ i) && x.testBit i.toNat
theorem rbit_neg (A : Option Addr) (n c : Nat) (i : Int) (h : i < 0) (w : World) :
    Calls Tryz.prog 57 #[.slice A n c, .int .i64 i] w fun e w' => e = .returned (.bool false) ∧ w' = w := by
  go_enter Tryz.func57, Tryz.ntmps57
  go_wp2
  go_ret
  exact ⟨rfl, rfl⟩
set_option maxRecDepth 100000 in
theorem rbit_out (A : Option Addr) (n c : Nat) (i : Int) (q : Int) (h0 : 0 ≤ i) (h1 : i ≤ 9223372036854775807) (hq : i / 32 = q) (h : (n : Int) ≤ q) (w : World) :
    Calls Tryz.prog 57 #[.slice A n c, .int .i64 i] w fun e w' => e = .returned (.bool false) ∧ w' = w := by
  go_enter Tryz.func57, Tryz.ntmps57
  go_wp2
  go_ret
  exact ⟨rfl, rfl⟩
set_option maxRecDepth 100000 in
theorem rbit_in (b off n c q r : Nat) (i d e : Int) (h0 : 0 ≤ i) (h1 : i ≤ 9223372036854775807) (hq : i / 32 = (q : Int)) (hr : i % 32 = (r : Int)) (h : q < n) (w : World) (hc : w.cell? ⟨b, off + q, none⟩ = some (.int .u32 d)) (he : bits .and .u32 (d / 2 ^ r) 1 = e) :
    Calls Tryz.prog 57 #[.slice (some ⟨b, off, none⟩) n c, .int .i64 i] w fun e' w' => e' = .returned (.bool (e == 1)) ∧ w' = w := by
  have b0 : (0 : Int) ≤ (q : Int) := by omega
  have b1 : (q : Int) < (n : Int) := by omega
  have b2 : (0 : Int) ≤ (r : Int) := by omega
  have b3 : (r : Int) ≤ 32 := by omega
  have t1 : ((q : Int)).toNat = q := Int.toNat_natCast q
  have t2 : ((r : Int)).toNat = r := Int.toNat_natCast r
  go_enter Tryz.func57, Tryz.ntmps57
  go_wp2
  go_ret
  exact ⟨rfl, rfl⟩
theorem big_bit {x i : Nat} (h : x < 2 ^ i) : x.testBit i = false := Nat.testBit_lt_two_pow h
theorem rbit {s : Value} {x : Nat} {w : World} (h : DR w s x) (i : Int) (hi : i ≤ 9223372036854775807) :
    Calls Tryz.prog 57 #[s, .int .i64 i] w fun e w' => e = .returned (.bool (bitv x i)) ∧ w' = w := by
  unfold bitv
  by_cases h0 : i < 0
  · obtain ⟨A, c, rfl, _⟩ := h.form
    rw [decide_eq_false (by omega), Bool.false_and]
    exact rbit_neg A _ c i h0 w
  · rw [decide_eq_true (by omega), Bool.true_and]
    obtain ⟨k, rfl⟩ := Int.eq_ofNat_of_zero_le (Int.not_lt.1 h0)
    rw [Int.toNat_natCast]
    by_cases hl : (digs x).length ≤ k / 32
    · obtain ⟨A, c, rfl, _⟩ := h.form
      have hx := digs_len.1 hl
      have : x < 2 ^ k := Nat.lt_of_lt_of_le hx (Nat.pow_le_pow_right (by decide) (by omega))
      rw [big_bit this]
      exact rbit_out A _ c k ((k / 32 : Nat) : Int) (by omega) hi (by omega) (by omega) w
    · rcases h with ⟨hn, A, c, rfl⟩ | ⟨b, off, c, rfl, hc, hlt, hcs⟩
      · rw [hn] at hl; exact absurd (Nat.zero_le _) hl
      · have hcell := hcs (k / 32) (by omega)
        rw [digs_get] at hcell
        have hd : x / 2 ^ (32 * (k / 32)) % 4294967296 < 4294967296 := Nat.mod_lt _ (by decide)
        have hbit : (x / 2 ^ (32 * (k / 32)) % 4294967296).testBit (k % 32) = x.testBit k := by
          rw [show (4294967296 : Nat) = 2 ^ 32 from by decide, Nat.testBit_mod_two_pow, decide_eq_true (show k % 32 < 32 by omega), Bool.true_and, Nat.testBit_div_two_pow]
          congr 1
          omega
        generalize x / 2 ^ (32 * (k / 32)) % 4294967296 = d at *
        have he : bits .and .u32 ((d : Int) / 2 ^ (k % 32)) 1 = ((d / 2 ^ (k % 32) % 2 : Nat) : Int) := by
          have h1 := u32_and_nat (d / 2 ^ (k % 32)) 1 (Nat.lt_of_le_of_lt (Nat.div_le_self _ _) hd) (by decide)
          rw [nat_mask1] at h1
          rw [← h1, Int.natCast_ediv, Int.natCast_pow]; rfl
        refine (rbit_in b off _ c (k / 32) (k % 32) k _ _ (by omega) hi (by omega) (by omega) (by omega) w hcell he).mono ?_
        rintro e' w' ⟨rfl, hw⟩
        refine ⟨?_, hw⟩
        congr 2
        rw [← hbit, Nat.testBit_eq_decide_div_mod_eq, Bool.eq_iff_iff, beq_iff_eq, decide_eq_true_eq]
        omega
theorem top_bit {x k : Nat} (h : x < 2 ^ (k + 1)) (hb : x.testBit k = false) : x < 2 ^ k := by
  rw [Nat.testBit_eq_decide_div_mod_eq, decide_eq_false_iff_not] at hb
  have h2 : x / 2 ^ k < 2 := Nat.div_lt_of_lt_mul (by rw [← Nat.pow_succ]; exact h)
  have h3 : x / 2 ^ k = 0 := by
    generalize x / 2 ^ k = q at hb h2
    omega
  exact (Nat.div_eq_zero_iff_lt (Nat.two_pow_pos k)).1 h3
theorem set_bit {x k : Nat} (hb : x.testBit k = true) : 2 ^ k ≤ x := by
  apply Decidable.byContradiction
  intro h
  rw [big_bit (by omega)] at hb
  cases hb
set_option maxHeartbeats 1000000 in
set_option maxRecDepth 100000 in
theorem rlen_core (A : Option Addr) (n c x : Nat) (hn : n = (digs x).length) (hn1 : n ≤ 1000) (w : World) (h : DR w (.slice A n c) x) :
    Calls Tryz.prog 31 #[.slice A n c] w fun e w' => e = .returned (.int .i64 (blen x)) ∧ w' = w := by
  have HN := Lib.hid hn; have HX := Lib.hid h; clear hn h
  go_enter Tryz.func31, Tryz.ntmps31
  go_wp2
  go_loop [3] (fun v => ∃ k : Nat, v = .int .i64 (k : Int) ∧ k ≤ 32 * n ∧ Hid (x < 2 ^ k)) (fun v => (intOf v).toNat)
  case atStart => exact ⟨32 * n, by (congr 1; omega), Nat.le_refl _, digs_len.1 (Nat.le_of_eq HN.out.symm)⟩
  case round =>
    obtain ⟨k, rfl, hk, HI⟩ := hrel
    by_cases h0 : k = 0
    · subst h0
      have hb : blen x = 0 := by
        have := HI.out
        simp at this
        subst this
        rfl
      have HB := Lib.hid hb; clear hb
      go_wp2
      go_ret
      exact ⟨by rw [HB.out]; rfl, rfl⟩
    · obtain ⟨j, rfl⟩ : ∃ j, k = j + 1 := ⟨k - 1, by omega⟩
      have hc := rbit HX.out (j : Int) (by omega)
      have e1 : bitv x (j : Int) = x.testBit j := by
        unfold bitv
        rw [decide_eq_true (by omega), Bool.true_and, Int.toNat_natCast]
      rw [e1] at hc
      clear h0 e1
      cases hb : x.testBit j with
      | false =>
        rw [hb] at hc
        have HT : Hid (x < 2 ^ j) := top_bit HI.out hb
        have HC := Lib.hid hc; clear hc hb
        have hp : 0 < j + 1 := by omega
        go_wp2_with fail
        (with_reducible refine HC.out.mono ?_)
        rintro e w1 ⟨rfl, hw⟩
        rw [hw]; clear hw w1
        go_wp2
        go_round
        case rel => exact ⟨j, by go_num, by omega, HT⟩
        case measure => simp [intOf]
      | true =>
        rw [hb] at hc
        have hbl : blen x = j + 1 := blen_unique (by omega) (by rw [Nat.add_sub_cancel]; exact set_bit hb) HI.out
        have HL := Lib.hid hbl
        have HC := Lib.hid hc; clear hc hb hbl
        have hp : 0 < j + 1 := by omega
        go_wp2_with fail
        (with_reducible refine HC.out.mono ?_)
        rintro e w1 ⟨rfl, hw⟩
        rw [hw]; clear hw w1
        go_wp2
        go_ret
        exact ⟨by rw [HL.out]; rfl, rfl⟩
theorem rlen {s : Value} {x : Nat} {w : World} (h : DR w s x) (lx : (digs x).length ≤ 1000) :
    Calls Tryz.prog 31 #[s] w fun e w' => e = .returned (.int .i64 (blen x)) ∧ w' = w := by
  obtain ⟨A, c, rfl, _⟩ := h.form
  exact rlen_core A _ c x rfl lx w h
set_option maxHeartbeats 1000000 in
set_option maxRecDepth 100000 in
theorem rtrail_zero {s : Value} {w : World} (h : DR w s 0) :
    Calls Tryz.prog 32 #[s] w fun e w' => e = .returned (.int .i64 256) ∧ w' = w := by
  have hl := rlen h (by rw [digs_zero]; exact Nat.zero_le _)
  rw [show blen 0 = 0 from rfl] at hl
  have HL := Lib.hid hl; clear hl
  go_enter Tryz.func32, Tryz.ntmps32
  go_wp2_with fail
  refine HL.out.mono ?_
  rintro e w1 ⟨rfl, hw⟩
  rw [hw]; clear hw w1
  go_wp2
  go_ret
  exact ⟨rfl, rfl⟩
theorem low_bits {x k m j : Nat} (e : x = 2 ^ k * (2 * m + 1)) : (j < k → x.testBit j = false) ∧ x.testBit k = true := by
  constructor
  · intro h
    rw [e, Nat.testBit_two_pow_mul, decide_eq_false (by omega), Bool.false_and]
  · rw [e, Nat.testBit_two_pow_mul, decide_eq_true (Nat.le_refl _), Bool.true_and, Nat.sub_self, Nat.testBit_eq_decide_div_mod_eq]
    simp
set_option maxHeartbeats 1000000 in
set_option maxRecDepth 100000 in
theorem rtrail {s : Value} {x k m : Nat} {w : World} (h : DR w s x) (lx : (digs x).length ≤ 1000) (e : x = 2 ^ k * (2 * m + 1)) (hk : k ≤ 100000) :
    Calls Tryz.prog 32 #[s] w fun e w' => e = .returned (.int .i64 k) ∧ w' = w := by
  have hl := rlen h lx
  have hx : x ≠ 0 := by
    rw [e]
    have := Nat.mul_pos (Nat.two_pow_pos k) (show 0 < 2 * m + 1 by omega)
    omega
  obtain ⟨B, hB⟩ : ∃ B, B = blen x := ⟨_, rfl⟩
  have hB0 : ((B : Int) == 0) = false := by
    have := (blen_spec hx).1
    rw [beq_eq_false_iff_ne]; omega
  rw [← hB] at hl
  have HL := Lib.hid hl; have HE := Lib.hid e; have HX := Lib.hid h; clear hl e hx hB h
  go_enter Tryz.func32, Tryz.ntmps32
  go_wp2_with fail
  refine HL.out.mono ?_
  rintro e w1 ⟨rfl, hw⟩
  rw [hw]; clear hw w1
  go_wp2
  go_loop [3] (fun v => ∃ j : Nat, v = .int .i64 (j : Int) ∧ j ≤ k) (fun v => k - (intOf v).toNat)
  case atStart => exact ⟨0, rfl, Nat.zero_le _⟩
  case round =>
    obtain ⟨j, rfl, hj⟩ := hrel
    have hc := rbit HX.out (j : Int) (by omega)
    have e1 : bitv x (j : Int) = x.testBit j := by
      unfold bitv
      rw [decide_eq_true (by omega), Bool.true_and, Int.toNat_natCast]
    rw [e1] at hc
    clear e1
    by_cases h1 : j < k
    · rw [(low_bits (j := j) HE.out).1 h1] at hc
      have HC := Lib.hid hc; clear hc
      go_wp2_with fail
      (with_reducible refine HC.out.mono ?_)
      rintro e w1 ⟨rfl, hw⟩
      rw [hw]; clear hw w1
      go_wp2
      go_round
      case rel => exact ⟨j + 1, by go_num, by omega⟩
      case measure => simp [intOf]; omega
    · obtain rfl : j = k := by omega
      rw [(low_bits (j := j) HE.out).2] at hc
      have HC := Lib.hid hc; clear hc
      go_wp2_with fail
      (with_reducible refine HC.out.mono ?_)
      rintro e w1 ⟨rfl, hw⟩
      rw [hw]; clear hw w1
      go_wp2
      go_ret
      exact ⟨rfl, rfl⟩
end Go.Proofs.YtjlgiejggcbgbaaGreatDoor
end
section
namespace Go.Proofs.YtjlgiejggcbgbaaGreatDoor
open Go.RowKit Go.Shelf

theorem pow_digs (q r : Nat) (hr : r < 32) : digs (2 ^ (32 * q + r)) = (List.replicate (q + 1) 0).set q (2 ^ r) := by
  have hv : 2 ^ r < 4294967296 := by
    have : 2 ^ r < 2 ^ 32 := Nat.pow_lt_pow_right (by decide) hr
    exact this
  have hp := Nat.two_pow_pos r
  have e := dval_set (List.replicate (q + 1) 0) q (2 ^ r) (by simp)
  rw [dval_zeros, List.getD_eq_getElem?_getD, List.getElem?_replicate, if_pos (by omega)] at e
  simp only [Option.getD_some, Nat.mul_zero, Nat.add_zero, Nat.zero_add] at e
  rw [Nat.pow_add, ← e]
  refine digs_of_last ((Sm.zeros _).set _ hv) ?_
  intro d hd
  rw [List.getLast?_eq_getElem?] at hd
  simp at hd
  omega
set_option maxHeartbeats 1000000 in
set_option maxRecDepth 100000 in
theorem rpow_core (k q r v : Nat) (hq : (k : Int) / 32 = (q : Int)) (hr : (k : Int) % 32 = (r : Int)) (hk : k ≤ 30000) (hv : IntKind.u32.wrap (2 ^ r) = (v : Int)) (M : Array Value) (w : World)
    (hmk : ∀ W, (Instr.makeSlice 57 (.int .i64 ((q : Int) + 1)) (.int .i64 ((q : Int) + 1))).run Tryz.prog W = .ok (.slice (some ⟨W.heap.size, 0, none⟩) (q + 1) (q + 1)) (W.alloc (.cells M 68)))
    (c0 : (w.alloc (.cells M 68)).cell? ⟨w.heap.size, q, none⟩ = some (.int .u32 0)) (f0 : (w.alloc (.cells M 68)).frozen? ⟨w.heap.size, q, none⟩ = false) :
    Calls Tryz.prog 52 #[.int .i64 (k : Int)] w fun e w' => e = .returned (.slice (some ⟨w.heap.size, 0, none⟩) (q + 1) (q + 1)) ∧ w' = w.alloc (.cells (M.setIfInBounds q (.int .u32 (v : Int))) 68) := by
  have b0 : (0 : Int) ≤ (q : Int) := by omega
  have b1 : (q : Int) < ((q + 1 : Nat) : Int) := by omega
  have b2 : (0 : Int) ≤ (r : Int) := by omega
  have b3 : (r : Int) ≤ 32 := by omega
  have b4 : (q : Int) ≤ 1000 := by omega
  have t1 : ((q : Int)).toNat = q := Int.toNat_natCast q
  have t2 : ((r : Int)).toNat = r := Int.toNat_natCast r
  go_enter Tryz.func52, Tryz.ntmps52
  go_wp2
  go_ret
  exact ⟨rfl, rfl⟩
theorem rpow (k : Nat) (hk : k ≤ 30000) (w : World) :
    Calls Tryz.prog 52 #[.int .i64 (k : Int)] w fun e w' => ∃ s', e = .returned s' ∧ DR w' s' (2 ^ k) ∧ Below w.heap.size w w' := by
  have hr : k % 32 < 32 := Nat.mod_lt _ (by decide)
  have hv : 2 ^ (k % 32) < 4294967296 := by
    have : 2 ^ (k % 32) < 2 ^ 32 := Nat.pow_lt_pow_right (by decide) hr
    exact this
  have hD := Dk.new w (List.replicate (k / 32 + 1) 0)
  have c0 := hD.cell (i := k / 32) (by simp)
  have f0 := hD.free (k / 32)
  rw [List.getD_eq_getElem?_getD, List.getElem?_replicate, if_pos (by omega)] at c0
  have hmk := make_u32 (k / 32 + 1) (by omega) (((k / 32 : Nat) : Int) + 1) (by omega)
  have hw : IntKind.u32.wrap ((2 : Int) ^ (k % 32)) = ((2 ^ (k % 32) : Nat) : Int) := by
    rw [IntKind.wrap_u32']
    have : (2 : Int) ^ (k % 32) = ((2 ^ (k % 32) : Nat) : Int) := by rw [Int.natCast_pow]; rfl
    rw [this]
    generalize 2 ^ (k % 32) = P at hv
    omega
  refine (rpow_core k (k / 32) (k % 32) (2 ^ (k % 32)) (by omega) (by omega) hk hw _ w hmk c0 f0).mono ?_
  rintro e w' ⟨rfl, rfl⟩
  have hD2 : Dk (w.alloc (.cells ((U32s (List.replicate (k / 32 + 1) 0)).toArray.setIfInBounds (k / 32) (.int .u32 ((2 ^ (k % 32) : Nat) : Int))) 68)) w.heap.size ((List.replicate (k / 32 + 1) 0).set (k / 32) (2 ^ (k % 32))) := by
    have e : (U32s (List.replicate (k / 32 + 1) 0)).toArray.setIfInBounds (k / 32) (.int .u32 ((2 ^ (k % 32) : Nat) : Int)) = (U32s ((List.replicate (k / 32 + 1) 0).set (k / 32) (2 ^ (k % 32)))).toArray := by
      apply Array.ext'
      simp [U32s, List.map_set]
    rw [e]
    exact Dk.new w _
  have hrd := hD2.rd (by simp; omega)
  rw [List.length_set, List.length_replicate, ← pow_digs (k / 32) (k % 32) hr, show 32 * (k / 32) + k % 32 = k from by omega] at hrd
  exact ⟨_, rfl, hrd, bal (Below.refl _ _) _⟩
theorem pow_len {k : Nat} (hk : k ≤ 30000) : (digs (2 ^ k)).length ≤ 1000 := by
  have h := pow_digs (k / 32) (k % 32) (Nat.mod_lt _ (by decide))
  rw [show 32 * (k / 32) + k % 32 = k from by omega] at h
  rw [h, List.length_set, List.length_replicate]
  omega
set_option maxRecDepth 100000 in
theorem rshl {s : Value} {x : Nat} {w : World} (h : DR w s x) (lx : (digs x).length ≤ 1000) (k : Nat) (hk : k ≤ 30000) :
    Calls Tryz.prog 49 #[s, .int .i64 (k : Int)] w fun e w' => ∃ s', e = .returned s' ∧ DR w' s' (x * 2 ^ k) ∧ Below w.heap.size w w' := by
  have HX := Lib.hid h; have HL := Lib.hid lx; have HK := Lib.hid hk; clear h lx hk
  have b0 : (0 : Int) ≤ (k : Int) := by omega
  go_enter Tryz.func49, Tryz.ntmps49
  go_wp2_with fail
  refine (rpow k HK.out _).mono ?_
  rintro e w1 ⟨s1, rfl, hr, hb⟩
  have H1 := Lib.hid hr; have HB := Lib.hid hb; clear hr hb
  go_wp2_with fail
  refine (rmul (HX.out.keep HB.out) H1.out HL.out (pow_len HK.out)).mono ?_
  rintro e w2 ⟨s2, rfl, hr, hb⟩
  have hb2 := btr HB.out hb
  clear hb
  go_wp2
  go_ret
  exact ⟨s2, rfl, hr, hb2⟩
end Go.Proofs.YtjlgiejggcbgbaaGreatDoor
end
section
namespace Go.Proofs.YtjlgiejggcbgbaaGreatDoor
open Go.RowKit Go.Shelf

theorem own_blk {W : World} {base g n cap : Nat} {O : List Nat} (h : W.ownsRow base 68 1 (.slice (some ⟨g, 0, none⟩) n cap) n (U32s O)) (hn : 0 < n) :
    base ≤ g ∧ ∃ cur : Array Value, W.heap[g]? = some (.cells cur 68 (0, 0)) ∧ n ≤ cap ∧ cap ≤ maxLen ∧ cur.size = cap * 1 ∧ cur.toList.take (n * 1) = U32s O := by
  obtain ⟨_, h⟩ := h
  rcases h with ⟨_, h0⟩ | ⟨g2, cap2, cur, e, hb, hh, h1, h2, h3, h4⟩
  · omega
  · injection e with e1 e2 e3
    injection e1 with e1
    injection e1 with e1
    subst e1 e3
    exact ⟨hb, cur, hh, h1, h2, h3, h4⟩
theorem own_cell {W : World} {base g n cap : Nat} {O : List Nat} (h : W.ownsRow base 68 1 (.slice (some ⟨g, 0, none⟩) n cap) n (U32s O)) (hl : O.length = n) {i : Nat} (hi : i < n) :
    W.cell? ⟨g, i, none⟩ = some (.int .u32 ((O.getD i 0 : Nat) : Int)) ∧ W.frozen? ⟨g, i, none⟩ = false := by
  obtain ⟨_, cur, hh, _, _, _, h4⟩ := own_blk h (by omega)
  refine ⟨?_, frozen_of_row W g i _ _ hh⟩
  rw [cell_of_row W g i _ _ _ hh]
  have e := U32s_at (O := O) (i := i) (by omega)
  rw [← h4, Nat.mul_one, List.getElem?_take, if_pos hi] at e
  rw [← e]; simp
theorem own_set {W : World} {base g n cap : Nat} {O : List Nat} (h : W.ownsRow base 68 1 (.slice (some ⟨g, 0, none⟩) n cap) n (U32s O)) (hl : O.length = n) {i d : Nat} (hi : i < n) (z : Int) (e : (d : Int) = z) :
    (W.setCell ⟨g, i, none⟩ (.int .u32 z)).ownsRow base 68 1 (.slice (some ⟨g, 0, none⟩) n cap) n (U32s (O.set i d)) := by
  obtain ⟨hb, cur, hh, h1, h2, h3, h4⟩ := own_blk h (by omega)
  refine ⟨by simp [U32s, hl], .inr ⟨g, cap, cur.setIfInBounds i (.int .u32 z), rfl, hb, heap_setCell_same W g i _ _ _ hh, h1, h2, by simp [h3], ?_⟩⟩
  rw [Array.toList_setIfInBounds, List.take_set, h4, ← e]
  simp [U32s, List.map_set]
/-- What holds at the head of Shift's loop, t places on. -/
def ShrInv (y t : Nat) (O : List Nat) : Prop := O.length = (t + 31) / 32 ∧ Sm O ∧ dval O = y % 2 ^ t
theorem ShrInv.zero (y : Nat) : ShrInv y 0 [] := ⟨rfl, Sm.nil, by simp [dval, Nat.mod_one]⟩
theorem mod_bit (y t : Nat) : y % 2 ^ (t + 1) = y % 2 ^ t + 2 ^ t * (y / 2 ^ t % 2) := by rw [Nat.pow_succ, Nat.mod_mul]
theorem bit_mod {y t : Nat} : (y.testBit t = true → y / 2 ^ t % 2 = 1) ∧ (y.testBit t = false → y / 2 ^ t % 2 = 0) := by
  rw [Nat.testBit_eq_decide_div_mod_eq]
  constructor
  · intro h; exact of_decide_eq_true h
  · intro h; have := of_decide_eq_false h; omega
/-- A digit more, where one begins. -/
theorem ShrInv.more {y t : Nat} {O : List Nat} (h : ShrInv y t O) : (O ++ [0]).length = O.length + 1 ∧ Sm (O ++ [0]) ∧ dval (O ++ [0]) = y % 2 ^ t :=
  ⟨by simp, h.2.1.app (Sm.one (by decide)), by rw [trim_zero rfl]; exact h.2.2⟩
theorem shr_no {y t q : Nat} {P : List Nat} (hl : P.length = q + 1) (hq : q = t / 32) (hs : Sm P) (hv : dval P = y % 2 ^ t) (hb : y.testBit t = false) : ShrInv y (t + 1) P :=
  ⟨by omega, hs, by rw [mod_bit, bit_mod.2 hb, Nat.mul_zero, Nat.add_zero]; exact hv⟩
theorem shr_digit {y t q r : Nat} {P : List Nat} (hq : q = t / 32) (hr : r = t % 32) (hv : dval P = y % 2 ^ t) : P.getD q 0 < 2 ^ r := by
  have g := dval_ge P q
  have hm : y % 2 ^ t < 2 ^ t := Nat.mod_lt _ (Nat.two_pow_pos t)
  rw [hv] at g
  have e : 2 ^ t = 2 ^ (32 * q) * 2 ^ r := by rw [← Nat.pow_add]; congr 1; omega
  rw [e] at hm g
  exact Nat.lt_of_mul_lt_mul_left (Nat.lt_of_le_of_lt g hm)
theorem shr_yes {y t q r : Nat} {P : List Nat} (hl : P.length = q + 1) (hq : q = t / 32) (hr : r = t % 32) (hs : Sm P) (hv : dval P = y % 2 ^ t) (hb : y.testBit t = true) : ShrInv y (t + 1) (P.set q (P.getD q 0 + 2 ^ r)) := by
  have hd := shr_digit hq hr hv
  have h32 : 2 ^ r * 2 ≤ 4294967296 := by
    have : 2 ^ (r + 1) ≤ 2 ^ 32 := Nat.pow_le_pow_right (by decide) (by omega)
    rw [Nat.pow_succ] at this
    exact this
  refine ⟨by rw [List.length_set]; omega, hs.set _ (by omega), ?_⟩
  have e := dval_set P q (P.getD q 0 + 2 ^ r) (by omega)
  rw [mod_bit, bit_mod.1 hb, Nat.mul_one, ← hv]
  have e2 : 2 ^ t = 2 ^ (32 * q) * 2 ^ r := by rw [← Nat.pow_add]; congr 1; omega
  rw [e2]
  rw [Nat.mul_add] at e
  omega
theorem ShrInv.stop {y t : Nat} {O : List Nat} (h : ShrInv y t O) (hy : y < 2 ^ t) : dval O = y := by rw [h.2.2, Nat.mod_eq_of_lt hy]
theorem or_digit {d r : Nat} (hd : d < 2 ^ r) (hr : r < 32) : bits .or .u32 (d : Int) (IntKind.u32.wrap (2 ^ r)) = ((d + 2 ^ r : Nat) : Int) := by
  have h1 : 2 ^ r < 4294967296 := by
    have : 2 ^ r < 2 ^ 32 := Nat.pow_lt_pow_right (by decide) hr
    exact this
  have hw : IntKind.u32.wrap ((2 : Int) ^ r) = ((2 ^ r : Nat) : Int) := by
    rw [IntKind.wrap_u32']
    have : (2 : Int) ^ r = ((2 ^ r : Nat) : Int) := by rw [Int.natCast_pow]; rfl
    rw [this]
    generalize 2 ^ r = P at h1
    omega
  rw [hw, u32_or_nat d (2 ^ r) (by omega) h1]
  have h2 := Nat.two_pow_add_eq_or_of_lt (i := r) (b := d) hd 1
  rw [Nat.mul_one] at h2
  rw [Nat.or_comm, ← h2, Nat.add_comm]
set_option maxHeartbeats 2000000 in
set_option maxRecDepth 100000 in
theorem rshr_core (A : Option Addr) (n c x K : Nat) (hn : n = (digs x).length) (hn1 : n ≤ 1000) (hK0 : 0 < K) (hK : K ≤ 40000) (w : World) (h : DR w (.slice A n c) x) :
    Calls Tryz.prog 49 #[.slice A n c, .int .i64 (-(K : Int))] w fun e w' => ∃ s', e = .returned s' ∧ DR w' s' (x / 2 ^ K) ∧ Below w.heap.size w w' := by
  obtain ⟨i0, hi, hz0, hz1, hz2⟩ := info_parts info_u32
  obtain ⟨y, hy⟩ : ∃ y, y = x / 2 ^ K := ⟨_, rfl⟩
  rw [← hy]
  have HN := Lib.hid hn; have HX := Lib.hid h; have HY := Lib.hid hy; clear hn h hy
  have hneg : -(K : Int) < 0 := by omega
  have hd9 : decide (K = 0) = false := decide_eq_false (by omega)
  go_enter Tryz.func49, Tryz.ntmps49
  go_wp2
  go_loopw [5, 6] (fun v i wr => ∃ (t j : Nat) (O : List Nat) (A0 : Option Addr) (c0 : Nat), i = .int .i64 (j : Int) ∧ Hid (j = K + t) ∧ (t = 0 ∨ j ≤ 32 * n) ∧ v = .slice A0 O.length c0 ∧ Hid (ShrInv y t O) ∧ wr.ownsRow w.heap.size 68 1 (.slice A0 O.length c0) O.length (U32s O) ∧ Below w.heap.size w wr)
    (fun _ i _ => 32 * n - (intOf i).toNat)
  case atStart => exact ⟨0, K, [], none, 0, rfl, rfl, .inl rfl, rfl, ShrInv.zero y, World.ownsRow_nil _ _ _ _, Below.refl _ _⟩
  case round =>
    obtain ⟨t, i, O, A0, c0, rfl, HIE0, ht, rfl, HI, hown, hbw⟩ := hrel
    have hie : i = K + t := HIE0.out
    clear HIE0
    by_cases h1 : i < 32 * n
    · have hj : (i : Int) + -(K : Int) = (t : Int) := by omega
      obtain ⟨q, hq⟩ : ∃ q, q = t / 32 := ⟨_, rfl⟩
      obtain ⟨r, hr⟩ : ∃ r, r = t % 32 := ⟨_, rfl⟩
      have hq2 : (t : Int) / 32 = (q : Int) := by omega
      have hr2 : (t : Int) % 32 = (r : Int) := by omega
      have hq1000 : q ≤ 1000 := by omega
      have HC : Hid (∀ W, Below w.heap.size w W → Calls Tryz.prog 57 #[.slice A n c, .int .i64 (i : Int)] W fun e w' => e = .returned (.bool (y.testBit t)) ∧ w' = W) := fun W hW => by
        have hc := rbit (HX.out.keep hW) (i : Int) (by omega)
        have e1 : bitv x (i : Int) = y.testBit t := by
          unfold bitv
          rw [decide_eq_true (by omega), Bool.true_and, Int.toNat_natCast, HY.out, Nat.testBit_div_two_pow, hie, Nat.add_comm]
        rw [e1] at hc
        exact hc
      have hlen : O.length = (t + 31) / 32 := HI.out.1
      by_cases hr0 : r = 0
      · have hlq : O.length = q := by omega
        rw [hlq] at hown ⊢
        obtain ⟨m1, m2, m3⟩ := HI.out.more
        have HIE := Lib.hid hie; have HQ := Lib.hid hq; have HRR := Lib.hid hr; have HLQ := Lib.hid hlq; have HM := Lib.hid m3; have HM1 := Lib.hid m1
        clear hie hq hr hlq hlen m3 m1 hr0
        go_wp2
        refine wp_loop_rounds 2 ?_
        rw [rounds_succ]
        go_wp2_with (at_builtin; refine wpList_append_lies _ rfl (.tmp 31) (.tmp 32) 57 rfl w.heap.size 68 i0 (.int .u32 0) 1 4 und_d hi hz0 hz1 hz2 rfl (by decide) _ q _ rfl (hown.alloc _) ⟨wr.heap.size, 0, none⟩ 1 1 [.int .u32 0] rfl rfl (cell_new1 _ _ _) (one_new1 _ _) (by decide) (by unfold maxLen; omega) (by omega) (by simp; have := hbw.size; omega) _ rfl ?_; intro g cap w2 hown1 hgrow hat hlt)
        obtain ⟨P, hP⟩ : ∃ P, P = O ++ [0] := ⟨_, rfl⟩
        have own2 : w2.ownsRow w.heap.size 68 1 (.slice (some ⟨g, 0, none⟩) (q + 1) cap) (q + 1) (U32s P) := by
          rw [hP, U32s_snoc O 0 0 rfl]
          exact hown1
        have hb2 : Below w.heap.size w w2 := (hbw.alloc hbw.size _).grown hgrow (by simp; have := hbw.size; omega) (fun k hk => (hown.lt k hk).1)
        have hPl : P.length = q + 1 := by rw [hP, HM1.out, HLQ.out]
        have hPs : Sm P := by rw [hP]; exact m2
        have hPv := HM.out
        rw [← hP] at hPv
        have HPl := Lib.hid hPl; have HPv := Lib.hid hPv
        clear hown1 hgrow hown hat hlt m2 hP hPl hPv HM HM1
        rw [rounds_succ]
        have t1 : ((q : Int)).toNat = q := Int.toNat_natCast q
        have t2 : ((r : Int)).toNat = r := Int.toNat_natCast r
        have b0 : (0 : Int) ≤ (q : Int) := by omega
        have b1 : (q : Int) < ((q + 1 : Nat) : Int) := by omega
        have b2 : (0 : Int) ≤ (r : Int) := by omega
        have b3 : (r : Int) ≤ 32 := by have := HRR.out; omega
        cases hb : y.testBit t with
        | false =>
          have hNX := shr_no HPl.out HQ.out hPs HPv.out hb
          have HNX := Lib.hid hNX; have HC2 := Lib.hid (HC.out _ hb2)
          rw [hb] at HC2
          have HPL := HPl
          clear hNX hPs hb ht
          go_wp2_with fail
          (with_reducible refine HC2.out.mono ?_)
          rintro e w3 ⟨rfl, hw⟩
          rw [hw]; clear hw w3
          go_wp2
          go_roundw
          case rel => exact ⟨t + 1, i + 1, P, some ⟨g, 0, none⟩, cap, by go_num, (by show _ = _; have := HIE.out; omega), .inr (by omega), by rw [HPL.out], HNX.out, by rw [HPL.out]; exact own2, hb2⟩
          case measure => simp [intOf]; have := HIE.out; omega
        | true =>
          have hNX := shr_yes HPl.out HQ.out HRR.out hPs HPv.out hb
          obtain ⟨cq, fq⟩ := own_cell own2 HPl.out (i := q) (by omega)
          have hd := shr_digit HQ.out HRR.out HPv.out
          have ho := or_digit hd (show r < 32 by have := HRR.out; omega)
          have hs2 : ∀ z : Int, ((P.getD q 0 + 2 ^ r : Nat) : Int) = z → _ := fun z hz => own_set own2 HPl.out (i := q) (d := P.getD q 0 + 2 ^ r) (by omega) z hz
          obtain ⟨z, hz⟩ : ∃ z : Int, z = ((P.getD q 0 + 2 ^ r : Nat) : Int) := ⟨_, rfl⟩
          rw [← hz] at ho
          have ho2 := ho
          rw [IntKind.wrap_u32'] at ho2
          have own3 := hs2 z hz.symm
          have HNX := Lib.hid hNX; have HC2 := Lib.hid (HC.out _ hb2)
          rw [hb] at HC2
          have HO3 := Lib.hid own3
          have hPl2 : (P.set q (P.getD q 0 + 2 ^ r)).length = q + 1 := by rw [List.length_set]; exact HPl.out
          have HPL := Lib.hid hPl2
          have hgb := (own_blk own2 (by omega)).1
          generalize P.getD q 0 = d at *
          clear hNX hPs hb ht hd hs2 hz own3 hPl2 HPv HPl
          go_wp2_with fail
          (with_reducible refine HC2.out.mono ?_)
          rintro e w3 ⟨rfl, hw⟩
          rw [hw]; clear hw w3
          go_wp2
          go_roundw
          case rel => exact ⟨t + 1, i + 1, P.set q (d + 2 ^ r), some ⟨g, 0, none⟩, cap, by go_num, (by show _ = _; have := HIE.out; omega), .inr (by omega), by rw [HPL.out], HNX.out, by rw [HPL.out]; exact HO3.out, bsc hb2 hgb _⟩
          case measure => simp [intOf]; have := HIE.out; omega
      · have hlq : O.length = q + 1 := by omega
        obtain ⟨g, cap, hA, _, _⟩ := hown.form (by omega)
        injection hA with hA hA1 hA2
        subst hA hA2
        rw [hlq] at hown ⊢
        obtain ⟨P, hP⟩ : ∃ P, P = O := ⟨_, rfl⟩
        have own2 := hown
        rw [← hP] at own2
        have hb2 := hbw
        have hPl : P.length = q + 1 := by rw [hP]; exact hlq
        have hPs : Sm P := by rw [hP]; exact HI.out.2.1
        have hPv : dval P = y % 2 ^ t := by rw [hP]; exact HI.out.2.2
        have HIE := Lib.hid hie; have HQ := Lib.hid hq; have HRR := Lib.hid hr; have HPl := Lib.hid hPl; have HPv := Lib.hid hPv
        clear hlq hlen hown hbw hP hie hq hr hPl hPv hr0
        go_wp2
        refine wp_loop_rounds 1 ?_
        rw [rounds_succ]
        have t1 : ((q : Int)).toNat = q := Int.toNat_natCast q
        have t2 : ((r : Int)).toNat = r := Int.toNat_natCast r
        have b0 : (0 : Int) ≤ (q : Int) := by omega
        have b1 : (q : Int) < ((q + 1 : Nat) : Int) := by omega
        have b2 : (0 : Int) ≤ (r : Int) := by omega
        have b3 : (r : Int) ≤ 32 := by have := HRR.out; omega
        cases hb : y.testBit t with
        | false =>
          have hNX := shr_no HPl.out HQ.out hPs HPv.out hb
          have HNX := Lib.hid hNX; have HC2 := Lib.hid (HC.out _ hb2)
          rw [hb] at HC2
          have HPL := HPl
          clear hNX hPs hb ht
          go_wp2_with fail
          (with_reducible refine HC2.out.mono ?_)
          rintro e w3 ⟨rfl, hw⟩
          rw [hw]; clear hw w3
          go_wp2
          go_roundw
          case rel => exact ⟨t + 1, i + 1, P, some ⟨g, 0, none⟩, c0, by go_num, (by show _ = _; have := HIE.out; omega), .inr (by omega), by rw [HPL.out], HNX.out, by rw [HPL.out]; exact own2, hb2⟩
          case measure => simp [intOf]; have := HIE.out; omega
        | true =>
          have hNX := shr_yes HPl.out HQ.out HRR.out hPs HPv.out hb
          obtain ⟨cq, fq⟩ := own_cell own2 HPl.out (i := q) (by omega)
          have hd := shr_digit HQ.out HRR.out HPv.out
          have ho := or_digit hd (show r < 32 by have := HRR.out; omega)
          have hs2 : ∀ z : Int, ((P.getD q 0 + 2 ^ r : Nat) : Int) = z → _ := fun z hz => own_set own2 HPl.out (i := q) (d := P.getD q 0 + 2 ^ r) (by omega) z hz
          obtain ⟨z, hz⟩ : ∃ z : Int, z = ((P.getD q 0 + 2 ^ r : Nat) : Int) := ⟨_, rfl⟩
          rw [← hz] at ho
          have ho2 := ho
          rw [IntKind.wrap_u32'] at ho2
          have own3 := hs2 z hz.symm
          have HNX := Lib.hid hNX; have HC2 := Lib.hid (HC.out _ hb2)
          rw [hb] at HC2
          have HO3 := Lib.hid own3
          have hPl2 : (P.set q (P.getD q 0 + 2 ^ r)).length = q + 1 := by rw [List.length_set]; exact HPl.out
          have HPL := Lib.hid hPl2
          have hgb := (own_blk own2 (by omega)).1
          generalize P.getD q 0 = d at *
          clear hNX hPs hb ht hd hs2 hz own3 hPl2 HPv HPl
          go_wp2_with fail
          (with_reducible refine HC2.out.mono ?_)
          rintro e w3 ⟨rfl, hw⟩
          rw [hw]; clear hw w3
          go_wp2
          go_roundw
          case rel => exact ⟨t + 1, i + 1, P.set q (d + 2 ^ r), some ⟨g, 0, none⟩, c0, by go_num, (by show _ = _; have := HIE.out; omega), .inr (by omega), by rw [HPL.out], HNX.out, by rw [HPL.out]; exact HO3.out, bsc hb2 hgb _⟩
          case measure => simp [intOf]; have := HIE.out; omega
    · have hs : y < 2 ^ t := by
        rw [HY.out]
        have hx := digs_len.1 (Nat.le_of_eq HN.out.symm)
        apply Nat.div_lt_of_lt_mul
        rw [← Nat.pow_add]
        exact Nat.lt_of_lt_of_le hx (Nat.pow_le_pow_right (by decide) (by omega))
      have hv := HI.out.stop hs
      have hrd := rd_own (l := O) hown
      have htr := trim_dr hrd HI.out.2.1
      rw [hv] at htr
      have HT := Lib.hid htr
      clear htr hv hrd hs ht hie
      go_wp2_with fail
      (with_reducible refine HT.out.mono ?_)
      rintro e w1 ⟨s', rfl, hr, hw⟩
      rw [hw]; clear hw w1
      go_wp2
      go_ret
      exact ⟨s', rfl, hr, hbw⟩
theorem rshr {s : Value} {x : Nat} {w : World} (h : DR w s x) (lx : (digs x).length ≤ 1000) (K : Nat) (hK0 : 0 < K) (hK : K ≤ 40000) :
    Calls Tryz.prog 49 #[s, .int .i64 (-(K : Int))] w fun e w' => ∃ s', e = .returned s' ∧ DR w' s' (x / 2 ^ K) ∧ Below w.heap.size w w' := by
  obtain ⟨A, c, rfl, _⟩ := h.form
  exact rshr_core A _ c x K rfl lx hK0 hK w h
/-- A number by a power of two, of either sign. -/
def shv (x : Nat) (k : Int) : Nat := if 0 ≤ k then x * 2 ^ k.toNat else x / 2 ^ (-k).toNat
theorem rshift {s : Value} {x : Nat} {w : World} (h : DR w s x) (lx : (digs x).length ≤ 1000) (k : Int) (h0 : -30000 ≤ k) (h1 : k ≤ 30000) :
    Calls Tryz.prog 49 #[s, .int .i64 k] w fun e w' => ∃ s', e = .returned s' ∧ DR w' s' (shv x k) ∧ Below w.heap.size w w' := by
  unfold shv
  by_cases hk : 0 ≤ k
  · rw [if_pos hk]
    obtain ⟨j, rfl⟩ := Int.eq_ofNat_of_zero_le hk
    rw [Int.toNat_natCast]
    exact rshl h lx j (by omega)
  · rw [if_neg hk]
    obtain ⟨j, hj⟩ := Int.eq_ofNat_of_zero_le (show 0 ≤ -k by omega)
    have e : k = -(j : Int) := by omega
    rw [hj, Int.toNat_natCast, e]
    exact rshr h lx j (by omega) (by omega)
end Go.Proofs.YtjlgiejggcbgbaaGreatDoor
end
section
namespace Go.Proofs.YtjlgiejggcbgbaaGreatDoor
open Go.RowKit Go.Shelf
attribute [local go_sem ↓] eql_nat neq_nat eql_int5 neq_int5

theorem ten_at (W : World) (n z : Nat) (Z : Int) (hn : n = W.heap.size) (hz0 : z ≠ 0) (hz : z < 4294967296) (e : Z = (z : Int)) : DR (W.alloc (.cells #[.int .u32 Z] 68)) (.slice (some ⟨n, 0, none⟩) 1 1) z := by
  subst hn; exact ten_new W z hz0 hz Z e
theorem digs_eight {x : Nat} (h : x < 2 ^ 256) : (digs x).length ≤ 1000 := Nat.le_trans (digs_len.2 (show x < 2 ^ (32 * 8) from h)) (by decide)
theorem rcmp_is {x y : Nat} {c : Int} (hc : rcv x y = c) (lx : (digs x).length ≤ 1000) {s t : Value} {w : World} (hx : DR w s x) (hy : DR w t y) :
    Calls Tryz.prog 48 #[s, t] w fun e w' => e = .returned (.int .i64 c) ∧ Below w.heap.size w w' := by
  have := rcmp hx hy lx
  rw [hc] at this
  exact this
set_option maxHeartbeats 1000000 in
set_option maxRecDepth 100000 in
theorem rex_zero (g : Bool) (x : Nat) (hx : x < 2 ^ 256) (w : World)
    (k1 : ∀ W, Calls Tryz.prog 30 #[I5 g x] W fun e w' => e = .returned (.bool true) ∧ Below W.heap.size W w')
    (k2 : ∀ s' W, DR W s' x → Calls Tryz.prog 31 #[s'] W fun e w' => e = .returned (.int .i64 0) ∧ Below W.heap.size W w') :
    Calls Tryz.prog 9 #[I5 g x] w fun e w' => e = .returned (.bool true) ∧ Below w.heap.size w w' := by
  unfold I5 at *
  have HX := Lib.hid hx; have K1 := Lib.hid k1; have K2 := Lib.hid k2; clear hx k1 k2
  go_enter Tryz.func9, Tryz.ntmps9
  go_wp2_with fail
  refine (rof x HX.out _).mono ?_
  rintro e w1 ⟨s1, rfl, hr, hb⟩
  have hbX : Below w.heap.size w w1 := btr (by repeat (first | (with_reducible exact Below.refl _ _) | (with_reducible refine bal ?_ _) | (with_reducible refine Below.drew ?_) | (with_reducible refine bdn ?_ _))) hb
  clear hbX
  have DX1 : DR w1 s1 x := hr
  clear hr
  have BW1 : Below w.heap.size w w1 := btr (by repeat (first | (with_reducible exact Below.refl _ _) | (with_reducible refine bal ?_ _) | (with_reducible refine Below.drew ?_) | (with_reducible refine bdn ?_ _))) hb
  have X1 : Row5 w1 w.heap.size (.bool g) (.int .u64 (lb 0 x)) (.int .u64 (lb 1 x)) (.int .u64 (lb 2 x)) (.int .u64 (lb 3 x)) := Row5.keep hb (by repeat (first | (with_reducible exact Row5.new _ _ _ _ _ _) | ((with_reducible refine Row5.new' _ ?_ _ _ _ _ _); (simp; done)) | (with_reducible refine Row5.alloc ?_ _) | (with_reducible refine Row5.drew ?_)))
  clear hb
  obtain ⟨Xc0, Xc1, Xc2, Xc3, Xc4⟩ := X1.parts
  obtain ⟨Xf0, Xf1, Xf2, Xf3, Xf4⟩ := X1.free
  go_wp2_with fail
  refine (K1.out _).mono ?_
  rintro e w2 ⟨rfl, hb⟩
  have hbX : Below w1.heap.size w1 w2 := btr (by repeat (first | (with_reducible exact Below.refl _ _) | (with_reducible refine bal ?_ _) | (with_reducible refine Below.drew ?_) | (with_reducible refine bdn ?_ _))) hb
  have DX2 : DR w2 s1 x := DR.keep hbX DX1
  clear DX1
  clear hbX
  have BW2 : Below w.heap.size w w2 := btr (by repeat (first | (with_reducible exact BW1) | (with_reducible refine bal ?_ _) | (with_reducible refine Below.drew ?_) | (with_reducible refine bdn ?_ _))) hb
  have X2 : Row5 w2 w.heap.size (.bool g) (.int .u64 (lb 0 x)) (.int .u64 (lb 1 x)) (.int .u64 (lb 2 x)) (.int .u64 (lb 3 x)) := Row5.keep hb (by repeat (first | (with_reducible exact X1) | (with_reducible refine Row5.alloc ?_ _) | (with_reducible refine Row5.drew ?_)))
  clear X1
  clear BW1
  clear hb
  go_wp2_with fail
  refine (K2.out _ _ (DR.keep (by repeat (first | (with_reducible exact Below.refl _ _) | (with_reducible refine bal ?_ _) | (with_reducible refine Below.drew ?_) | (with_reducible refine bdn ?_ _))) DX2)).mono ?_
  rintro e w3 ⟨rfl, hb⟩
  have hbX : Below w2.heap.size w2 w3 := btr (by repeat (first | (with_reducible exact Below.refl _ _) | (with_reducible refine bal ?_ _) | (with_reducible refine Below.drew ?_) | (with_reducible refine bdn ?_ _))) hb
  have DX3 : DR w3 s1 x := DR.keep hbX DX2
  clear DX2
  clear hbX
  have BW3 : Below w.heap.size w w3 := btr (by repeat (first | (with_reducible exact BW2) | (with_reducible refine bal ?_ _) | (with_reducible refine Below.drew ?_) | (with_reducible refine bdn ?_ _))) hb
  have X3 : Row5 w3 w.heap.size (.bool g) (.int .u64 (lb 0 x)) (.int .u64 (lb 1 x)) (.int .u64 (lb 2 x)) (.int .u64 (lb 3 x)) := Row5.keep hb (by repeat (first | (with_reducible exact X2) | (with_reducible refine Row5.alloc ?_ _) | (with_reducible refine Row5.drew ?_)))
  clear X2
  clear BW2
  clear hb
  go_wp2
  go_ret
  exact ⟨rfl, BW3⟩
set_option maxHeartbeats 1000000 in
set_option maxRecDepth 100000 in
theorem rex_some (g : Bool) (x : Nat) (hx : x < 2 ^ 256) (L t : Nat) (hL : ((L : Int) == 0) = false) (hL2 : L ≤ 2000) (ht : t ≤ 2000) (hq : (L : Int) - t ≤ 53) (w : World)
    (k1 : ∀ W, Calls Tryz.prog 30 #[I5 g x] W fun e w' => e = .returned (.bool true) ∧ Below W.heap.size W w')
    (k2 : ∀ s' W, DR W s' x → Calls Tryz.prog 31 #[s'] W fun e w' => e = .returned (.int .i64 (L : Int)) ∧ Below W.heap.size W w')
    (k3 : ∀ s' W, DR W s' x → Calls Tryz.prog 32 #[s'] W fun e w' => e = .returned (.int .i64 (t : Int)) ∧ Below W.heap.size W w') :
    Calls Tryz.prog 9 #[I5 g x] w fun e w' => e = .returned (.bool true) ∧ Below w.heap.size w w' := by
  unfold I5 at *
  have HX := Lib.hid hx; have K1 := Lib.hid k1; have K2 := Lib.hid k2; have K3 := Lib.hid k3; clear hx k1 k2 k3
  go_enter Tryz.func9, Tryz.ntmps9
  go_wp2_with fail
  refine (rof x HX.out _).mono ?_
  rintro e w1 ⟨s1, rfl, hr, hb⟩
  have hbX : Below w.heap.size w w1 := btr (by repeat (first | (with_reducible exact Below.refl _ _) | (with_reducible refine bal ?_ _) | (with_reducible refine Below.drew ?_) | (with_reducible refine bdn ?_ _))) hb
  clear hbX
  have DX1 : DR w1 s1 x := hr
  clear hr
  have BW1 : Below w.heap.size w w1 := btr (by repeat (first | (with_reducible exact Below.refl _ _) | (with_reducible refine bal ?_ _) | (with_reducible refine Below.drew ?_) | (with_reducible refine bdn ?_ _))) hb
  have X1 : Row5 w1 w.heap.size (.bool g) (.int .u64 (lb 0 x)) (.int .u64 (lb 1 x)) (.int .u64 (lb 2 x)) (.int .u64 (lb 3 x)) := Row5.keep hb (by repeat (first | (with_reducible exact Row5.new _ _ _ _ _ _) | ((with_reducible refine Row5.new' _ ?_ _ _ _ _ _); (simp; done)) | (with_reducible refine Row5.alloc ?_ _) | (with_reducible refine Row5.drew ?_)))
  clear hb
  obtain ⟨Xc0, Xc1, Xc2, Xc3, Xc4⟩ := X1.parts
  obtain ⟨Xf0, Xf1, Xf2, Xf3, Xf4⟩ := X1.free
  go_wp2_with fail
  refine (K1.out _).mono ?_
  rintro e w2 ⟨rfl, hb⟩
  have hbX : Below w1.heap.size w1 w2 := btr (by repeat (first | (with_reducible exact Below.refl _ _) | (with_reducible refine bal ?_ _) | (with_reducible refine Below.drew ?_) | (with_reducible refine bdn ?_ _))) hb
  have DX2 : DR w2 s1 x := DR.keep hbX DX1
  clear DX1
  clear hbX
  have BW2 : Below w.heap.size w w2 := btr (by repeat (first | (with_reducible exact BW1) | (with_reducible refine bal ?_ _) | (with_reducible refine Below.drew ?_) | (with_reducible refine bdn ?_ _))) hb
  have X2 : Row5 w2 w.heap.size (.bool g) (.int .u64 (lb 0 x)) (.int .u64 (lb 1 x)) (.int .u64 (lb 2 x)) (.int .u64 (lb 3 x)) := Row5.keep hb (by repeat (first | (with_reducible exact X1) | (with_reducible refine Row5.alloc ?_ _) | (with_reducible refine Row5.drew ?_)))
  clear X1
  clear BW1
  clear hb
  go_wp2_with fail
  refine (K2.out _ _ (DR.keep (by repeat (first | (with_reducible exact Below.refl _ _) | (with_reducible refine bal ?_ _) | (with_reducible refine Below.drew ?_) | (with_reducible refine bdn ?_ _))) DX2)).mono ?_
  rintro e w3 ⟨rfl, hb⟩
  have hbX : Below w2.heap.size w2 w3 := btr (by repeat (first | (with_reducible exact Below.refl _ _) | (with_reducible refine bal ?_ _) | (with_reducible refine Below.drew ?_) | (with_reducible refine bdn ?_ _))) hb
  have DX3 : DR w3 s1 x := DR.keep hbX DX2
  clear DX2
  clear hbX
  have BW3 : Below w.heap.size w w3 := btr (by repeat (first | (with_reducible exact BW2) | (with_reducible refine bal ?_ _) | (with_reducible refine Below.drew ?_) | (with_reducible refine bdn ?_ _))) hb
  have X3 : Row5 w3 w.heap.size (.bool g) (.int .u64 (lb 0 x)) (.int .u64 (lb 1 x)) (.int .u64 (lb 2 x)) (.int .u64 (lb 3 x)) := Row5.keep hb (by repeat (first | (with_reducible exact X2) | (with_reducible refine Row5.alloc ?_ _) | (with_reducible refine Row5.drew ?_)))
  clear X2
  clear BW2
  clear hb
  go_wp2_with fail
  refine (K2.out _ _ (DR.keep (by repeat (first | (with_reducible exact Below.refl _ _) | (with_reducible refine bal ?_ _) | (with_reducible refine Below.drew ?_) | (with_reducible refine bdn ?_ _))) DX3)).mono ?_
  rintro e w4 ⟨rfl, hb⟩
  have hbX : Below w3.heap.size w3 w4 := btr (by repeat (first | (with_reducible exact Below.refl _ _) | (with_reducible refine bal ?_ _) | (with_reducible refine Below.drew ?_) | (with_reducible refine bdn ?_ _))) hb
  have DX4 : DR w4 s1 x := DR.keep hbX DX3
  clear DX3
  clear hbX
  have BW4 : Below w.heap.size w w4 := btr (by repeat (first | (with_reducible exact BW3) | (with_reducible refine bal ?_ _) | (with_reducible refine Below.drew ?_) | (with_reducible refine bdn ?_ _))) hb
  have X4 : Row5 w4 w.heap.size (.bool g) (.int .u64 (lb 0 x)) (.int .u64 (lb 1 x)) (.int .u64 (lb 2 x)) (.int .u64 (lb 3 x)) := Row5.keep hb (by repeat (first | (with_reducible exact X3) | (with_reducible refine Row5.alloc ?_ _) | (with_reducible refine Row5.drew ?_)))
  clear X3
  clear BW3
  clear hb
  go_wp2_with fail
  refine (K3.out _ _ (DR.keep (by repeat (first | (with_reducible exact Below.refl _ _) | (with_reducible refine bal ?_ _) | (with_reducible refine Below.drew ?_) | (with_reducible refine bdn ?_ _))) DX4)).mono ?_
  rintro e w5 ⟨rfl, hb⟩
  have hbX : Below w4.heap.size w4 w5 := btr (by repeat (first | (with_reducible exact Below.refl _ _) | (with_reducible refine bal ?_ _) | (with_reducible refine Below.drew ?_) | (with_reducible refine bdn ?_ _))) hb
  have DX5 : DR w5 s1 x := DR.keep hbX DX4
  clear DX4
  clear hbX
  have BW5 : Below w.heap.size w w5 := btr (by repeat (first | (with_reducible exact BW4) | (with_reducible refine bal ?_ _) | (with_reducible refine Below.drew ?_) | (with_reducible refine bdn ?_ _))) hb
  have X5 : Row5 w5 w.heap.size (.bool g) (.int .u64 (lb 0 x)) (.int .u64 (lb 1 x)) (.int .u64 (lb 2 x)) (.int .u64 (lb 3 x)) := Row5.keep hb (by repeat (first | (with_reducible exact X4) | (with_reducible refine Row5.alloc ?_ _) | (with_reducible refine Row5.drew ?_)))
  clear X4
  clear BW4
  clear hb
  go_wp2
  go_ret
  exact ⟨rfl, BW5⟩
set_option maxHeartbeats 1000000 in
set_option maxRecDepth 100000 in
theorem rex_no (g : Bool) (x : Nat) (hx : x < 2 ^ 256) (L t : Nat) (hL : ((L : Int) == 0) = false) (hL2 : L ≤ 2000) (ht : t ≤ 2000) (hq : 53 < (L : Int) - t) (w : World)
    (k1 : ∀ W, Calls Tryz.prog 30 #[I5 g x] W fun e w' => e = .returned (.bool true) ∧ Below W.heap.size W w')
    (k2 : ∀ s' W, DR W s' x → Calls Tryz.prog 31 #[s'] W fun e w' => e = .returned (.int .i64 (L : Int)) ∧ Below W.heap.size W w')
    (k3 : ∀ s' W, DR W s' x → Calls Tryz.prog 32 #[s'] W fun e w' => e = .returned (.int .i64 (t : Int)) ∧ Below W.heap.size W w') :
    Calls Tryz.prog 9 #[I5 g x] w fun e w' => e = .returned (.bool false) ∧ Below w.heap.size w w' := by
  unfold I5 at *
  have HX := Lib.hid hx; have K1 := Lib.hid k1; have K2 := Lib.hid k2; have K3 := Lib.hid k3; clear hx k1 k2 k3
  have hq2 : decide ((L : Int) - t ≤ 53) = false := decide_eq_false (by omega)
  go_enter Tryz.func9, Tryz.ntmps9
  go_wp2_with fail
  refine (rof x HX.out _).mono ?_
  rintro e w1 ⟨s1, rfl, hr, hb⟩
  have hbX : Below w.heap.size w w1 := btr (by repeat (first | (with_reducible exact Below.refl _ _) | (with_reducible refine bal ?_ _) | (with_reducible refine Below.drew ?_) | (with_reducible refine bdn ?_ _))) hb
  clear hbX
  have DX1 : DR w1 s1 x := hr
  clear hr
  have BW1 : Below w.heap.size w w1 := btr (by repeat (first | (with_reducible exact Below.refl _ _) | (with_reducible refine bal ?_ _) | (with_reducible refine Below.drew ?_) | (with_reducible refine bdn ?_ _))) hb
  have X1 : Row5 w1 w.heap.size (.bool g) (.int .u64 (lb 0 x)) (.int .u64 (lb 1 x)) (.int .u64 (lb 2 x)) (.int .u64 (lb 3 x)) := Row5.keep hb (by repeat (first | (with_reducible exact Row5.new _ _ _ _ _ _) | ((with_reducible refine Row5.new' _ ?_ _ _ _ _ _); (simp; done)) | (with_reducible refine Row5.alloc ?_ _) | (with_reducible refine Row5.drew ?_)))
  clear hb
  obtain ⟨Xc0, Xc1, Xc2, Xc3, Xc4⟩ := X1.parts
  obtain ⟨Xf0, Xf1, Xf2, Xf3, Xf4⟩ := X1.free
  go_wp2_with fail
  refine (K1.out _).mono ?_
  rintro e w2 ⟨rfl, hb⟩
  have hbX : Below w1.heap.size w1 w2 := btr (by repeat (first | (with_reducible exact Below.refl _ _) | (with_reducible refine bal ?_ _) | (with_reducible refine Below.drew ?_) | (with_reducible refine bdn ?_ _))) hb
  have DX2 : DR w2 s1 x := DR.keep hbX DX1
  clear DX1
  clear hbX
  have BW2 : Below w.heap.size w w2 := btr (by repeat (first | (with_reducible exact BW1) | (with_reducible refine bal ?_ _) | (with_reducible refine Below.drew ?_) | (with_reducible refine bdn ?_ _))) hb
  have X2 : Row5 w2 w.heap.size (.bool g) (.int .u64 (lb 0 x)) (.int .u64 (lb 1 x)) (.int .u64 (lb 2 x)) (.int .u64 (lb 3 x)) := Row5.keep hb (by repeat (first | (with_reducible exact X1) | (with_reducible refine Row5.alloc ?_ _) | (with_reducible refine Row5.drew ?_)))
  clear X1
  clear BW1
  clear hb
  go_wp2_with fail
  refine (K2.out _ _ (DR.keep (by repeat (first | (with_reducible exact Below.refl _ _) | (with_reducible refine bal ?_ _) | (with_reducible refine Below.drew ?_) | (with_reducible refine bdn ?_ _))) DX2)).mono ?_
  rintro e w3 ⟨rfl, hb⟩
  have hbX : Below w2.heap.size w2 w3 := btr (by repeat (first | (with_reducible exact Below.refl _ _) | (with_reducible refine bal ?_ _) | (with_reducible refine Below.drew ?_) | (with_reducible refine bdn ?_ _))) hb
  have DX3 : DR w3 s1 x := DR.keep hbX DX2
  clear DX2
  clear hbX
  have BW3 : Below w.heap.size w w3 := btr (by repeat (first | (with_reducible exact BW2) | (with_reducible refine bal ?_ _) | (with_reducible refine Below.drew ?_) | (with_reducible refine bdn ?_ _))) hb
  have X3 : Row5 w3 w.heap.size (.bool g) (.int .u64 (lb 0 x)) (.int .u64 (lb 1 x)) (.int .u64 (lb 2 x)) (.int .u64 (lb 3 x)) := Row5.keep hb (by repeat (first | (with_reducible exact X2) | (with_reducible refine Row5.alloc ?_ _) | (with_reducible refine Row5.drew ?_)))
  clear X2
  clear BW2
  clear hb
  go_wp2_with fail
  refine (K2.out _ _ (DR.keep (by repeat (first | (with_reducible exact Below.refl _ _) | (with_reducible refine bal ?_ _) | (with_reducible refine Below.drew ?_) | (with_reducible refine bdn ?_ _))) DX3)).mono ?_
  rintro e w4 ⟨rfl, hb⟩
  have hbX : Below w3.heap.size w3 w4 := btr (by repeat (first | (with_reducible exact Below.refl _ _) | (with_reducible refine bal ?_ _) | (with_reducible refine Below.drew ?_) | (with_reducible refine bdn ?_ _))) hb
  have DX4 : DR w4 s1 x := DR.keep hbX DX3
  clear DX3
  clear hbX
  have BW4 : Below w.heap.size w w4 := btr (by repeat (first | (with_reducible exact BW3) | (with_reducible refine bal ?_ _) | (with_reducible refine Below.drew ?_) | (with_reducible refine bdn ?_ _))) hb
  have X4 : Row5 w4 w.heap.size (.bool g) (.int .u64 (lb 0 x)) (.int .u64 (lb 1 x)) (.int .u64 (lb 2 x)) (.int .u64 (lb 3 x)) := Row5.keep hb (by repeat (first | (with_reducible exact X3) | (with_reducible refine Row5.alloc ?_ _) | (with_reducible refine Row5.drew ?_)))
  clear X3
  clear BW3
  clear hb
  go_wp2_with fail
  refine (K3.out _ _ (DR.keep (by repeat (first | (with_reducible exact Below.refl _ _) | (with_reducible refine bal ?_ _) | (with_reducible refine Below.drew ?_) | (with_reducible refine bdn ?_ _))) DX4)).mono ?_
  rintro e w5 ⟨rfl, hb⟩
  have hbX : Below w4.heap.size w4 w5 := btr (by repeat (first | (with_reducible exact Below.refl _ _) | (with_reducible refine bal ?_ _) | (with_reducible refine Below.drew ?_) | (with_reducible refine bdn ?_ _))) hb
  have DX5 : DR w5 s1 x := DR.keep hbX DX4
  clear DX4
  clear hbX
  have BW5 : Below w.heap.size w w5 := btr (by repeat (first | (with_reducible exact BW4) | (with_reducible refine bal ?_ _) | (with_reducible refine Below.drew ?_) | (with_reducible refine bdn ?_ _))) hb
  have X5 : Row5 w5 w.heap.size (.bool g) (.int .u64 (lb 0 x)) (.int .u64 (lb 1 x)) (.int .u64 (lb 2 x)) (.int .u64 (lb 3 x)) := Row5.keep hb (by repeat (first | (with_reducible exact X4) | (with_reducible refine Row5.alloc ?_ _) | (with_reducible refine Row5.drew ?_)))
  clear X4
  clear BW4
  clear hb
  go_wp2
  go_ret
  exact ⟨rfl, BW5⟩
set_option maxHeartbeats 1000000 in
set_option maxRecDepth 100000 in
theorem rex_bad (g : Bool) (x : Nat) (hx : x < 2 ^ 256) (w : World)
    (k1 : ∀ W, Calls Tryz.prog 30 #[I5 g x] W fun e w' => e = .returned (.bool false) ∧ Below W.heap.size W w') :
    Calls Tryz.prog 9 #[I5 g x] w fun e w' => e = .returned (.bool false) ∧ Below w.heap.size w w' := by
  unfold I5 at *
  have HX := Lib.hid hx; have K1 := Lib.hid k1; clear hx k1
  go_enter Tryz.func9, Tryz.ntmps9
  go_wp2_with fail
  refine (rof x HX.out _).mono ?_
  rintro e w1 ⟨s1, rfl, hr, hb⟩
  have hbX : Below w.heap.size w w1 := btr (by repeat (first | (with_reducible exact Below.refl _ _) | (with_reducible refine bal ?_ _) | (with_reducible refine Below.drew ?_) | (with_reducible refine bdn ?_ _))) hb
  clear hbX
  have DX1 : DR w1 s1 x := hr
  clear hr
  have BW1 : Below w.heap.size w w1 := btr (by repeat (first | (with_reducible exact Below.refl _ _) | (with_reducible refine bal ?_ _) | (with_reducible refine Below.drew ?_) | (with_reducible refine bdn ?_ _))) hb
  have X1 : Row5 w1 w.heap.size (.bool g) (.int .u64 (lb 0 x)) (.int .u64 (lb 1 x)) (.int .u64 (lb 2 x)) (.int .u64 (lb 3 x)) := Row5.keep hb (by repeat (first | (with_reducible exact Row5.new _ _ _ _ _ _) | ((with_reducible refine Row5.new' _ ?_ _ _ _ _ _); (simp; done)) | (with_reducible refine Row5.alloc ?_ _) | (with_reducible refine Row5.drew ?_)))
  clear hb
  obtain ⟨Xc0, Xc1, Xc2, Xc3, Xc4⟩ := X1.parts
  obtain ⟨Xf0, Xf1, Xf2, Xf3, Xf4⟩ := X1.free
  go_wp2_with fail
  refine (K1.out _).mono ?_
  rintro e w2 ⟨rfl, hb⟩
  have hbX : Below w1.heap.size w1 w2 := btr (by repeat (first | (with_reducible exact Below.refl _ _) | (with_reducible refine bal ?_ _) | (with_reducible refine Below.drew ?_) | (with_reducible refine bdn ?_ _))) hb
  have DX2 : DR w2 s1 x := DR.keep hbX DX1
  clear DX1
  clear hbX
  have BW2 : Below w.heap.size w w2 := btr (by repeat (first | (with_reducible exact BW1) | (with_reducible refine bal ?_ _) | (with_reducible refine Below.drew ?_) | (with_reducible refine bdn ?_ _))) hb
  have X2 : Row5 w2 w.heap.size (.bool g) (.int .u64 (lb 0 x)) (.int .u64 (lb 1 x)) (.int .u64 (lb 2 x)) (.int .u64 (lb 3 x)) := Row5.keep hb (by repeat (first | (with_reducible exact X1) | (with_reducible refine Row5.alloc ?_ _) | (with_reducible refine Row5.drew ?_)))
  clear X1
  clear BW1
  clear hb
  go_wp2
  go_ret
  exact ⟨rfl, BW2⟩
set_option maxHeartbeats 1000000 in
set_option maxRecDepth 100000 in
theorem rodd_none (g up : Bool) (x0 x1 x2 x3 : Int) (w : World) :
    Calls Tryz.prog 53 #[.agg #[.bool g, .int .u64 x0, .int .u64 x1, .int .u64 x2, .int .u64 x3], .bool false, .bool up] w fun e w' => e = .returned (.tuple #[.agg #[.bool g, .int .u64 x0, .int .u64 x1, .int .u64 x2, .int .u64 x3], .bool false]) ∧ Below w.heap.size w w' := by
  go_enter Tryz.func53, Tryz.ntmps53
  go_upto_region 2 with (fail)
  go_name_world w1 hw1
  have BW1 : Below w.heap.size w w1 := by rw [← hw1]; repeat (first | (with_reducible exact Below.refl _ _) | (with_reducible refine bal ?_ _) | (with_reducible refine Below.drew ?_) | (with_reducible refine bdn ?_ _))
  have X1 : Row5 w1 w.heap.size (.bool g) (.int .u64 x0) (.int .u64 x1) (.int .u64 x2) (.int .u64 x3) := by rw [← hw1]; exact (by repeat (first | (with_reducible exact Row5.new _ _ _ _ _ _) | ((with_reducible refine Row5.new' _ ?_ _ _ _ _ _); (simp; done)) | (with_reducible refine Row5.alloc ?_ _) | (with_reducible refine Row5.drew ?_)))
  have R1 : Row5 w1 (w.heap.size + 1) (.bool false) (.int .u64 0) (.int .u64 0) (.int .u64 0) (.int .u64 0) := by rw [← hw1]; exact (by repeat (first | (with_reducible exact Row5.new _ _ _ _ _ _) | ((with_reducible refine Row5.new' _ ?_ _ _ _ _ _); (simp; done)) | (with_reducible refine Row5.alloc ?_ _) | (with_reducible refine Row5.drew ?_)))
  clear hw1
  obtain ⟨Xc0, Xc1, Xc2, Xc3, Xc4⟩ := X1.parts
  obtain ⟨Xf0, Xf1, Xf2, Xf3, Xf4⟩ := X1.free
  obtain ⟨Rc0, Rc1, Rc2, Rc3, Rc4⟩ := R1.parts
  obtain ⟨Rf0, Rf1, Rf2, Rf3, Rf4⟩ := R1.free
  have lt_R := R1.lt; have lt_X := X1.lt; have nrx : ¬ w.heap.size + 1 = w.heap.size := by omega
  go_wp2
  exact bodyPost_ret (v := .tuple #[.agg #[.bool g, .int .u64 x0, .int .u64 x1, .int .u64 x2, .int .u64 x3], .bool false]) (by simp [results, Tryz.results53, go_sem, Rc0, Rc1, Rc2, Rc3, Rc4]) rfl ⟨rfl, by repeat (first | (with_reducible exact BW1) | (with_reducible refine bal ?_ _) | (with_reducible refine Below.drew ?_) | (with_reducible refine bdn ?_ _) | ((with_reducible refine bsc ?_ ?_ _); rotate_left; (focus (simp only []; omega))))⟩
set_option maxHeartbeats 1000000 in
set_option maxRecDepth 100000 in
theorem rodd_rough (g up : Bool) (x0 x1 x2 x3 : Int) (w : World)
    (k1 : ∀ W, Calls Tryz.prog 9 #[.agg #[.bool g, .int .u64 x0, .int .u64 x1, .int .u64 x2, .int .u64 x3]] W fun e w' => e = .returned (.bool false) ∧ Below W.heap.size W w') :
    Calls Tryz.prog 53 #[.agg #[.bool g, .int .u64 x0, .int .u64 x1, .int .u64 x2, .int .u64 x3], .bool true, .bool up] w fun e w' => e = .returned (.tuple #[.agg #[.bool g, .int .u64 x0, .int .u64 x1, .int .u64 x2, .int .u64 x3], .bool true]) ∧ Below w.heap.size w w' := by
  have K1 := Lib.hid k1; clear k1
  go_enter Tryz.func53, Tryz.ntmps53
  go_wp2_with fail
  refine (K1.out _).mono ?_
  rintro e w1 ⟨rfl, hb⟩
  have BW1 : Below w.heap.size w w1 := btr (by repeat (first | (with_reducible exact Below.refl _ _) | (with_reducible refine bal ?_ _) | (with_reducible refine Below.drew ?_) | (with_reducible refine bdn ?_ _))) hb
  have X1 : Row5 w1 w.heap.size (.bool g) (.int .u64 x0) (.int .u64 x1) (.int .u64 x2) (.int .u64 x3) := Row5.keep hb (by repeat (first | (with_reducible exact Row5.new _ _ _ _ _ _) | ((with_reducible refine Row5.new' _ ?_ _ _ _ _ _); (simp; done)) | (with_reducible refine Row5.alloc ?_ _) | (with_reducible refine Row5.drew ?_)))
  have R1 : Row5 w1 (w.heap.size + 1) (.bool false) (.int .u64 0) (.int .u64 0) (.int .u64 0) (.int .u64 0) := Row5.keep hb (by repeat (first | (with_reducible exact Row5.new _ _ _ _ _ _) | ((with_reducible refine Row5.new' _ ?_ _ _ _ _ _); (simp; done)) | (with_reducible refine Row5.alloc ?_ _) | (with_reducible refine Row5.drew ?_)))
  clear hb
  go_upto_region 2 with (fail)
  go_name_world w2 hw2
  have BW2 : Below w.heap.size w w2 := by rw [← hw2]; repeat (first | (with_reducible exact BW1) | (with_reducible refine bal ?_ _) | (with_reducible refine Below.drew ?_) | (with_reducible refine bdn ?_ _))
  have X2 : Row5 w2 w.heap.size (.bool g) (.int .u64 x0) (.int .u64 x1) (.int .u64 x2) (.int .u64 x3) := by rw [← hw2]; exact (by repeat (first | (with_reducible exact X1) | (with_reducible refine Row5.alloc ?_ _) | (with_reducible refine Row5.drew ?_)))
  have R2 : Row5 w2 (w.heap.size + 1) (.bool false) (.int .u64 0) (.int .u64 0) (.int .u64 0) (.int .u64 0) := by rw [← hw2]; exact (by repeat (first | (with_reducible exact R1) | (with_reducible refine Row5.alloc ?_ _) | (with_reducible refine Row5.drew ?_)))
  clear X1 R1
  clear BW1
  clear hw2
  obtain ⟨Xc0, Xc1, Xc2, Xc3, Xc4⟩ := X2.parts
  obtain ⟨Xf0, Xf1, Xf2, Xf3, Xf4⟩ := X2.free
  obtain ⟨Rc0, Rc1, Rc2, Rc3, Rc4⟩ := R2.parts
  obtain ⟨Rf0, Rf1, Rf2, Rf3, Rf4⟩ := R2.free
  have lt_R := R2.lt; have lt_X := X2.lt; have nrx : ¬ w.heap.size + 1 = w.heap.size := by omega
  go_wp2
  exact bodyPost_ret (v := .tuple #[.agg #[.bool g, .int .u64 x0, .int .u64 x1, .int .u64 x2, .int .u64 x3], .bool true]) (by simp [results, Tryz.results53, go_sem, Rc0, Rc1, Rc2, Rc3, Rc4]) rfl ⟨rfl, by repeat (first | (with_reducible exact BW2) | (with_reducible refine bal ?_ _) | (with_reducible refine Below.drew ?_) | (with_reducible refine bdn ?_ _) | ((with_reducible refine bsc ?_ ?_ _); rotate_left; (focus (simp only []; omega))))⟩
theorem rpow_53 (w : World) : Calls Tryz.prog 52 #[.int .i64 53] w fun e w' => ∃ s', e = .returned s' ∧ DR w' s' (2 ^ 53) ∧ Below w.heap.size w w' := rpow 53 (by decide) w
theorem radd_least {s t : Value} {w : World} (hx : DR w s (2 ^ 53)) (hy : DR w t 1) (lx : (digs (2 ^ 53)).length ≤ 1000) (ly : (digs 1).length ≤ 1000) :
    Calls Tryz.prog 50 #[s, t] w fun e w' => ∃ s', e = .returned s' ∧ DR w' s' 9007199254740993 ∧ Below w.heap.size w w' := radd hx hy lx ly
set_option maxHeartbeats 4000000 in
set_option maxRecDepth 100000 in
theorem rnear_bad (g up ex : Bool) (x : Nat) (hx : x < 2 ^ 256) (w : World)
    (k1 : ∀ W, Calls Tryz.prog 30 #[I5 g x] W fun e w' => e = .returned (.bool false) ∧ Below W.heap.size W w') :
    Calls Tryz.prog 24 #[I5 g x, .bool up, .bool ex] w fun e w' => e = .returned (.tuple #[.agg #[.bool false, .int .u64 0, .int .u64 0, .int .u64 0, .int .u64 0], .bool false]) ∧ Below w.heap.size w w' := by
  unfold I5 at *
  have HX := Lib.hid hx; have K1 := Lib.hid k1; clear hx k1
  have L1 := Lib.hid (digs_eight HX.out); have L2 := Lib.hid (digs_eight (show 1 < 2 ^ 256 by decide)); have L3 := Lib.hid (digs_eight (show 2 ^ 53 < 2 ^ 256 by decide))
  go_enter Tryz.func24, Tryz.ntmps24
  go_wp2_with fail
  refine (K1.out _).mono ?_
  rintro e w1 ⟨rfl, hb⟩
  have BW1 : Below w.heap.size w w1 := btr (by repeat (first | (with_reducible exact Below.refl _ _) | (with_reducible refine bal ?_ _) | (with_reducible refine Below.drew ?_) | (with_reducible refine bdn ?_ _))) hb
  have X1 : Row5 w1 w.heap.size (.bool g) (.int .u64 (lb 0 x)) (.int .u64 (lb 1 x)) (.int .u64 (lb 2 x)) (.int .u64 (lb 3 x)) := Row5.keep hb (by repeat (first | (with_reducible exact Row5.new _ _ _ _ _ _) | ((with_reducible refine Row5.new' _ ?_ _ _ _ _ _); (simp; done)) | (with_reducible refine Row5.alloc ?_ _) | (with_reducible refine Row5.drew ?_)))
  have R1 : Row5 w1 (w.heap.size + 1) (.bool false) (.int .u64 0) (.int .u64 0) (.int .u64 0) (.int .u64 0) := Row5.keep hb (by repeat (first | (with_reducible exact Row5.new _ _ _ _ _ _) | ((with_reducible refine Row5.new' _ ?_ _ _ _ _ _); (simp; done)) | (with_reducible refine Row5.alloc ?_ _) | (with_reducible refine Row5.drew ?_)))
  clear hb
  obtain ⟨Rc0, Rc1, Rc2, Rc3, Rc4⟩ := R1.parts
  obtain ⟨Rf0, Rf1, Rf2, Rf3, Rf4⟩ := R1.free
  have lt_R := R1.lt
  go_wp2
  exact bodyPost_ret (v := .tuple #[.agg #[.bool false, .int .u64 0, .int .u64 0, .int .u64 0, .int .u64 0], .bool false]) (by simp [results, Tryz.results24, go_sem, Rc0, Rc1, Rc2, Rc3, Rc4]) rfl ⟨rfl, by repeat (first | (with_reducible exact BW1) | (with_reducible refine bal ?_ _) | (with_reducible refine Below.drew ?_) | (with_reducible refine bdn ?_ _) | ((with_reducible refine bsc ?_ ?_ _); rotate_left; (focus (simp only []; omega))))⟩
set_option maxHeartbeats 4000000 in
set_option maxRecDepth 100000 in
theorem rnear_same_false_false (up : Bool) (x : Nat) (hx : x < 2 ^ 256) (w : World)
    (k1 : ∀ W, Calls Tryz.prog 30 #[I5 false x] W fun e w' => e = .returned (.bool true) ∧ Below W.heap.size W w')
    (k2 : ∀ W, Calls Tryz.prog 9 #[I5 false x] W fun e w' => e = .returned (.bool false) ∧ Below W.heap.size W w') :
    Calls Tryz.prog 24 #[I5 false x, .bool up, .bool false] w fun e w' => e = .returned (.tuple #[I5 false x, .bool true]) ∧ Below w.heap.size w w' := by
  unfold I5 at *
  have HX := Lib.hid hx; have K1 := Lib.hid k1; have K2 := Lib.hid k2; clear hx k1 k2
  have L1 := Lib.hid (digs_eight HX.out); have L2 := Lib.hid (digs_eight (show 1 < 2 ^ 256 by decide)); have L3 := Lib.hid (digs_eight (show 2 ^ 53 < 2 ^ 256 by decide))
  go_enter Tryz.func24, Tryz.ntmps24
  go_wp2_with fail
  refine (K1.out _).mono ?_
  rintro e w1 ⟨rfl, hb⟩
  have BW1 : Below w.heap.size w w1 := btr (by repeat (first | (with_reducible exact Below.refl _ _) | (with_reducible refine bal ?_ _) | (with_reducible refine Below.drew ?_) | (with_reducible refine bdn ?_ _))) hb
  have X1 : Row5 w1 w.heap.size (.bool false) (.int .u64 (lb 0 x)) (.int .u64 (lb 1 x)) (.int .u64 (lb 2 x)) (.int .u64 (lb 3 x)) := Row5.keep hb (by repeat (first | (with_reducible exact Row5.new _ _ _ _ _ _) | ((with_reducible refine Row5.new' _ ?_ _ _ _ _ _); (simp; done)) | (with_reducible refine Row5.alloc ?_ _) | (with_reducible refine Row5.drew ?_)))
  have R1 : Row5 w1 (w.heap.size + 1) (.bool false) (.int .u64 0) (.int .u64 0) (.int .u64 0) (.int .u64 0) := Row5.keep hb (by repeat (first | (with_reducible exact Row5.new _ _ _ _ _ _) | ((with_reducible refine Row5.new' _ ?_ _ _ _ _ _); (simp; done)) | (with_reducible refine Row5.alloc ?_ _) | (with_reducible refine Row5.drew ?_)))
  clear hb
  obtain ⟨Xc0, Xc1, Xc2, Xc3, Xc4⟩ := X1.parts
  obtain ⟨Xf0, Xf1, Xf2, Xf3, Xf4⟩ := X1.free
  go_wp2_with fail
  refine (K2.out _).mono ?_
  rintro e w2 ⟨rfl, hb⟩
  have BW2 : Below w.heap.size w w2 := btr (by repeat (first | (with_reducible exact BW1) | (with_reducible refine bal ?_ _) | (with_reducible refine Below.drew ?_) | (with_reducible refine bdn ?_ _))) hb
  have X2 : Row5 w2 w.heap.size (.bool false) (.int .u64 (lb 0 x)) (.int .u64 (lb 1 x)) (.int .u64 (lb 2 x)) (.int .u64 (lb 3 x)) := Row5.keep hb (by repeat (first | (with_reducible exact X1) | (with_reducible refine Row5.alloc ?_ _) | (with_reducible refine Row5.drew ?_)))
  have R2 : Row5 w2 (w.heap.size + 1) (.bool false) (.int .u64 0) (.int .u64 0) (.int .u64 0) (.int .u64 0) := Row5.keep hb (by repeat (first | (with_reducible exact R1) | (with_reducible refine Row5.alloc ?_ _) | (with_reducible refine Row5.drew ?_)))
  clear X1 R1
  clear BW1
  clear hb
  obtain ⟨Xc0, Xc1, Xc2, Xc3, Xc4⟩ := X2.parts
  obtain ⟨Xf0, Xf1, Xf2, Xf3, Xf4⟩ := X2.free
  have nrx : ¬ w.heap.size + 1 = w.heap.size := by omega
  obtain ⟨Rc0, Rc1, Rc2, Rc3, Rc4⟩ := R2.parts
  obtain ⟨Rf0, Rf1, Rf2, Rf3, Rf4⟩ := R2.free
  have lt_R := R2.lt
  go_wp2
  exact bodyPost_ret (v := .tuple #[.agg #[.bool false, .int .u64 (lb 0 x), .int .u64 (lb 1 x), .int .u64 (lb 2 x), .int .u64 (lb 3 x)], .bool true]) (by simp [results, Tryz.results24, go_sem, Rc0, Rc1, Rc2, Rc3, Rc4]) rfl ⟨rfl, by repeat (first | (with_reducible exact BW2) | (with_reducible refine bal ?_ _) | (with_reducible refine Below.drew ?_) | (with_reducible refine bdn ?_ _) | ((with_reducible refine bsc ?_ ?_ _); rotate_left; (focus (simp only []; omega))))⟩
set_option maxHeartbeats 4000000 in
set_option maxRecDepth 100000 in
theorem rnear_same_false_true (up : Bool) (x : Nat) (hx : x < 2 ^ 256) (w : World)
    (k1 : ∀ W, Calls Tryz.prog 30 #[I5 false x] W fun e w' => e = .returned (.bool true) ∧ Below W.heap.size W w')
    (k2 : ∀ W, Calls Tryz.prog 9 #[I5 false x] W fun e w' => e = .returned (.bool true) ∧ Below W.heap.size W w') :
    Calls Tryz.prog 24 #[I5 false x, .bool up, .bool true] w fun e w' => e = .returned (.tuple #[I5 false x, .bool true]) ∧ Below w.heap.size w w' := by
  unfold I5 at *
  have HX := Lib.hid hx; have K1 := Lib.hid k1; have K2 := Lib.hid k2; clear hx k1 k2
  have L1 := Lib.hid (digs_eight HX.out); have L2 := Lib.hid (digs_eight (show 1 < 2 ^ 256 by decide)); have L3 := Lib.hid (digs_eight (show 2 ^ 53 < 2 ^ 256 by decide))
  go_enter Tryz.func24, Tryz.ntmps24
  go_wp2_with fail
  refine (K1.out _).mono ?_
  rintro e w1 ⟨rfl, hb⟩
  have BW1 : Below w.heap.size w w1 := btr (by repeat (first | (with_reducible exact Below.refl _ _) | (with_reducible refine bal ?_ _) | (with_reducible refine Below.drew ?_) | (with_reducible refine bdn ?_ _))) hb
  have X1 : Row5 w1 w.heap.size (.bool false) (.int .u64 (lb 0 x)) (.int .u64 (lb 1 x)) (.int .u64 (lb 2 x)) (.int .u64 (lb 3 x)) := Row5.keep hb (by repeat (first | (with_reducible exact Row5.new _ _ _ _ _ _) | ((with_reducible refine Row5.new' _ ?_ _ _ _ _ _); (simp; done)) | (with_reducible refine Row5.alloc ?_ _) | (with_reducible refine Row5.drew ?_)))
  have R1 : Row5 w1 (w.heap.size + 1) (.bool false) (.int .u64 0) (.int .u64 0) (.int .u64 0) (.int .u64 0) := Row5.keep hb (by repeat (first | (with_reducible exact Row5.new _ _ _ _ _ _) | ((with_reducible refine Row5.new' _ ?_ _ _ _ _ _); (simp; done)) | (with_reducible refine Row5.alloc ?_ _) | (with_reducible refine Row5.drew ?_)))
  clear hb
  obtain ⟨Xc0, Xc1, Xc2, Xc3, Xc4⟩ := X1.parts
  obtain ⟨Xf0, Xf1, Xf2, Xf3, Xf4⟩ := X1.free
  go_wp2_with fail
  refine (K2.out _).mono ?_
  rintro e w2 ⟨rfl, hb⟩
  have BW2 : Below w.heap.size w w2 := btr (by repeat (first | (with_reducible exact BW1) | (with_reducible refine bal ?_ _) | (with_reducible refine Below.drew ?_) | (with_reducible refine bdn ?_ _))) hb
  have X2 : Row5 w2 w.heap.size (.bool false) (.int .u64 (lb 0 x)) (.int .u64 (lb 1 x)) (.int .u64 (lb 2 x)) (.int .u64 (lb 3 x)) := Row5.keep hb (by repeat (first | (with_reducible exact X1) | (with_reducible refine Row5.alloc ?_ _) | (with_reducible refine Row5.drew ?_)))
  have R2 : Row5 w2 (w.heap.size + 1) (.bool false) (.int .u64 0) (.int .u64 0) (.int .u64 0) (.int .u64 0) := Row5.keep hb (by repeat (first | (with_reducible exact R1) | (with_reducible refine Row5.alloc ?_ _) | (with_reducible refine Row5.drew ?_)))
  clear X1 R1
  clear BW1
  clear hb
  obtain ⟨Xc0, Xc1, Xc2, Xc3, Xc4⟩ := X2.parts
  obtain ⟨Xf0, Xf1, Xf2, Xf3, Xf4⟩ := X2.free
  have nrx : ¬ w.heap.size + 1 = w.heap.size := by omega
  obtain ⟨Rc0, Rc1, Rc2, Rc3, Rc4⟩ := R2.parts
  obtain ⟨Rf0, Rf1, Rf2, Rf3, Rf4⟩ := R2.free
  have lt_R := R2.lt
  go_wp2
  exact bodyPost_ret (v := .tuple #[.agg #[.bool false, .int .u64 (lb 0 x), .int .u64 (lb 1 x), .int .u64 (lb 2 x), .int .u64 (lb 3 x)], .bool true]) (by simp [results, Tryz.results24, go_sem, Rc0, Rc1, Rc2, Rc3, Rc4]) rfl ⟨rfl, by repeat (first | (with_reducible exact BW2) | (with_reducible refine bal ?_ _) | (with_reducible refine Below.drew ?_) | (with_reducible refine bdn ?_ _) | ((with_reducible refine bsc ?_ ?_ _); rotate_left; (focus (simp only []; omega))))⟩
set_option maxHeartbeats 4000000 in
set_option maxRecDepth 100000 in
theorem rnear_cutup_false (x : Nat) (hx : x < 2 ^ 256) (h : Bool) (y0 y1 y2 y3 : Int) (b : Bool) (L k q v : Nat) (hk : (L : Int) - 53 = (k : Int)) (hk2 : k ≤ 300) (hq : q < 2 ^ 256) (w : World)
    (k1 : ∀ W, Calls Tryz.prog 30 #[I5 false x] W fun e w' => e = .returned (.bool true) ∧ Below W.heap.size W w')
    (k2 : ∀ W, Calls Tryz.prog 9 #[I5 false x] W fun e w' => e = .returned (.bool false) ∧ Below W.heap.size W w')
    (k3 : ∀ s' W, DR W s' x → Calls Tryz.prog 31 #[s'] W fun e w' => e = .returned (.int .i64 (L : Int)) ∧ Below W.heap.size W w')
    (k4 : ∀ s' W, DR W s' x → Calls Tryz.prog 49 #[s', .int .i64 (-(k : Int))] W fun e w' => ∃ s2, e = .returned s2 ∧ DR w' s2 q ∧ Below W.heap.size W w')
    (k5 : ∀ s' W, DR W s' (q + 1) → Calls Tryz.prog 49 #[s', .int .i64 (k : Int)] W fun e w' => ∃ s2, e = .returned s2 ∧ DR w' s2 v ∧ Below W.heap.size W w')
    (kw : ∀ s' W, DR W s' v → Calls Tryz.prog 51 #[.bool false, s'] W fun e w' => e = .returned (.tuple #[.agg #[.bool h, .int .u64 y0, .int .u64 y1, .int .u64 y2, .int .u64 y3], .bool b]) ∧ Below W.heap.size W w') :
    Calls Tryz.prog 24 #[I5 false x, .bool true, .bool true] w fun e w' => e = .returned (.tuple #[.agg #[.bool h, .int .u64 y0, .int .u64 y1, .int .u64 y2, .int .u64 y3], .bool b]) ∧ Below w.heap.size w w' := by
  unfold I5 at *
  have HX := Lib.hid hx; have K1 := Lib.hid k1; have K2 := Lib.hid k2; have K3 := Lib.hid k3; have K4 := Lib.hid k4; have K5 := Lib.hid k5; have KW := Lib.hid kw; clear hx k1 k2 k3 k4 k5 kw
  have L1 := Lib.hid (digs_eight HX.out); have L2 := Lib.hid (digs_eight (show 1 < 2 ^ 256 by decide)); have L3 := Lib.hid (digs_eight (show 2 ^ 53 < 2 ^ 256 by decide))
  have LQ := Lib.hid (digs_eight hq); clear hq
  go_enter Tryz.func24, Tryz.ntmps24
  go_wp2_with fail
  refine (K1.out _).mono ?_
  rintro e w1 ⟨rfl, hb⟩
  have BW1 : Below w.heap.size w w1 := btr (by repeat (first | (with_reducible exact Below.refl _ _) | (with_reducible refine bal ?_ _) | (with_reducible refine Below.drew ?_) | (with_reducible refine bdn ?_ _))) hb
  have X1 : Row5 w1 w.heap.size (.bool false) (.int .u64 (lb 0 x)) (.int .u64 (lb 1 x)) (.int .u64 (lb 2 x)) (.int .u64 (lb 3 x)) := Row5.keep hb (by repeat (first | (with_reducible exact Row5.new _ _ _ _ _ _) | ((with_reducible refine Row5.new' _ ?_ _ _ _ _ _); (simp; done)) | (with_reducible refine Row5.alloc ?_ _) | (with_reducible refine Row5.drew ?_)))
  have R1 : Row5 w1 (w.heap.size + 1) (.bool false) (.int .u64 0) (.int .u64 0) (.int .u64 0) (.int .u64 0) := Row5.keep hb (by repeat (first | (with_reducible exact Row5.new _ _ _ _ _ _) | ((with_reducible refine Row5.new' _ ?_ _ _ _ _ _); (simp; done)) | (with_reducible refine Row5.alloc ?_ _) | (with_reducible refine Row5.drew ?_)))
  clear hb
  obtain ⟨Xc0, Xc1, Xc2, Xc3, Xc4⟩ := X1.parts
  obtain ⟨Xf0, Xf1, Xf2, Xf3, Xf4⟩ := X1.free
  go_wp2_with fail
  refine (K2.out _).mono ?_
  rintro e w2 ⟨rfl, hb⟩
  have BW2 : Below w.heap.size w w2 := btr (by repeat (first | (with_reducible exact BW1) | (with_reducible refine bal ?_ _) | (with_reducible refine Below.drew ?_) | (with_reducible refine bdn ?_ _))) hb
  have X2 : Row5 w2 w.heap.size (.bool false) (.int .u64 (lb 0 x)) (.int .u64 (lb 1 x)) (.int .u64 (lb 2 x)) (.int .u64 (lb 3 x)) := Row5.keep hb (by repeat (first | (with_reducible exact X1) | (with_reducible refine Row5.alloc ?_ _) | (with_reducible refine Row5.drew ?_)))
  have R2 : Row5 w2 (w.heap.size + 1) (.bool false) (.int .u64 0) (.int .u64 0) (.int .u64 0) (.int .u64 0) := Row5.keep hb (by repeat (first | (with_reducible exact R1) | (with_reducible refine Row5.alloc ?_ _) | (with_reducible refine Row5.drew ?_)))
  clear X1 R1
  clear BW1
  clear hb
  obtain ⟨Xc0, Xc1, Xc2, Xc3, Xc4⟩ := X2.parts
  obtain ⟨Xf0, Xf1, Xf2, Xf3, Xf4⟩ := X2.free
  go_wp2_with fail
  refine (rof x HX.out _).mono ?_
  rintro e w3 ⟨s1, rfl, hr, hb⟩
  have hbX : Below w2.heap.size w2 w3 := btr (by repeat (first | (with_reducible exact Below.refl _ _) | (with_reducible refine bal ?_ _) | (with_reducible refine Below.drew ?_) | (with_reducible refine bdn ?_ _))) hb
  clear hbX
  have DX3 : DR w3 s1 x := hr
  clear hr
  have BW3 : Below w.heap.size w w3 := btr (by repeat (first | (with_reducible exact BW2) | (with_reducible refine bal ?_ _) | (with_reducible refine Below.drew ?_) | (with_reducible refine bdn ?_ _))) hb
  have X3 : Row5 w3 w.heap.size (.bool false) (.int .u64 (lb 0 x)) (.int .u64 (lb 1 x)) (.int .u64 (lb 2 x)) (.int .u64 (lb 3 x)) := Row5.keep hb (by repeat (first | (with_reducible exact X2) | (with_reducible refine Row5.alloc ?_ _) | (with_reducible refine Row5.drew ?_)))
  have R3 : Row5 w3 (w.heap.size + 1) (.bool false) (.int .u64 0) (.int .u64 0) (.int .u64 0) (.int .u64 0) := Row5.keep hb (by repeat (first | (with_reducible exact R2) | (with_reducible refine Row5.alloc ?_ _) | (with_reducible refine Row5.drew ?_)))
  clear X2 R2
  clear BW2
  clear hb
  obtain ⟨Xc0, Xc1, Xc2, Xc3, Xc4⟩ := X3.parts
  obtain ⟨Xf0, Xf1, Xf2, Xf3, Xf4⟩ := X3.free
  go_wp2_with fail
  refine (K3.out _ _ (DR.keep (by repeat (first | (with_reducible exact Below.refl _ _) | (with_reducible refine bal ?_ _) | (with_reducible refine Below.drew ?_) | (with_reducible refine bdn ?_ _))) DX3)).mono ?_
  rintro e w4 ⟨rfl, hb⟩
  have hbX : Below w3.heap.size w3 w4 := btr (by repeat (first | (with_reducible exact Below.refl _ _) | (with_reducible refine bal ?_ _) | (with_reducible refine Below.drew ?_) | (with_reducible refine bdn ?_ _))) hb
  have DX4 : DR w4 s1 x := DR.keep hbX DX3
  clear DX3
  clear hbX
  have BW4 : Below w.heap.size w w4 := btr (by repeat (first | (with_reducible exact BW3) | (with_reducible refine bal ?_ _) | (with_reducible refine Below.drew ?_) | (with_reducible refine bdn ?_ _))) hb
  have X4 : Row5 w4 w.heap.size (.bool false) (.int .u64 (lb 0 x)) (.int .u64 (lb 1 x)) (.int .u64 (lb 2 x)) (.int .u64 (lb 3 x)) := Row5.keep hb (by repeat (first | (with_reducible exact X3) | (with_reducible refine Row5.alloc ?_ _) | (with_reducible refine Row5.drew ?_)))
  have R4 : Row5 w4 (w.heap.size + 1) (.bool false) (.int .u64 0) (.int .u64 0) (.int .u64 0) (.int .u64 0) := Row5.keep hb (by repeat (first | (with_reducible exact R3) | (with_reducible refine Row5.alloc ?_ _) | (with_reducible refine Row5.drew ?_)))
  clear X3 R3
  clear BW3
  clear hb
  go_wp2_with fail
  refine (K4.out _ _ (DR.keep (by repeat (first | (with_reducible exact Below.refl _ _) | (with_reducible refine bal ?_ _) | (with_reducible refine Below.drew ?_) | (with_reducible refine bdn ?_ _))) DX4)).mono ?_
  rintro e w5 ⟨s2, rfl, hr, hb⟩
  have hbX : Below w4.heap.size w4 w5 := btr (by repeat (first | (with_reducible exact Below.refl _ _) | (with_reducible refine bal ?_ _) | (with_reducible refine Below.drew ?_) | (with_reducible refine bdn ?_ _))) hb
  have DX5 : DR w5 s1 x := DR.keep hbX DX4
  clear DX4
  clear hbX
  have DQ5 : DR w5 s2 q := hr
  clear hr
  have BW5 : Below w.heap.size w w5 := btr (by repeat (first | (with_reducible exact BW4) | (with_reducible refine bal ?_ _) | (with_reducible refine Below.drew ?_) | (with_reducible refine bdn ?_ _))) hb
  have X5 : Row5 w5 w.heap.size (.bool false) (.int .u64 (lb 0 x)) (.int .u64 (lb 1 x)) (.int .u64 (lb 2 x)) (.int .u64 (lb 3 x)) := Row5.keep hb (by repeat (first | (with_reducible exact X4) | (with_reducible refine Row5.alloc ?_ _) | (with_reducible refine Row5.drew ?_)))
  have R5 : Row5 w5 (w.heap.size + 1) (.bool false) (.int .u64 0) (.int .u64 0) (.int .u64 0) (.int .u64 0) := Row5.keep hb (by repeat (first | (with_reducible exact R4) | (with_reducible refine Row5.alloc ?_ _) | (with_reducible refine Row5.drew ?_)))
  clear X4 R4
  clear BW4
  clear hb
  go_wp2_with fail
  refine (radd (DR.keep (by repeat (first | (with_reducible exact Below.refl _ _) | (with_reducible refine bal ?_ _) | (with_reducible refine Below.drew ?_) | (with_reducible refine bdn ?_ _))) DQ5) (DR.keep (by repeat (first | (with_reducible exact Below.refl _ _) | (with_reducible refine bal ?_ _) | (with_reducible refine Below.drew ?_) | (with_reducible refine bdn ?_ _))) (ten_new w5 1 (by decide) (by decide) 1 rfl)) LQ.out L2.out).mono ?_
  rintro e w6 ⟨s3, rfl, hr, hb⟩
  have hbX : Below w5.heap.size w5 w6 := btr (by repeat (first | (with_reducible exact Below.refl _ _) | (with_reducible refine bal ?_ _) | (with_reducible refine Below.drew ?_) | (with_reducible refine bdn ?_ _))) hb
  have DX6 : DR w6 s1 x := DR.keep hbX DX5
  have DQ6 : DR w6 s2 q := DR.keep hbX DQ5
  clear DX5 DQ5
  clear hbX
  have DE6 : DR w6 s3 (q + 1) := hr
  clear hr
  have BW6 : Below w.heap.size w w6 := btr (by repeat (first | (with_reducible exact BW5) | (with_reducible refine bal ?_ _) | (with_reducible refine Below.drew ?_) | (with_reducible refine bdn ?_ _))) hb
  have X6 : Row5 w6 w.heap.size (.bool false) (.int .u64 (lb 0 x)) (.int .u64 (lb 1 x)) (.int .u64 (lb 2 x)) (.int .u64 (lb 3 x)) := Row5.keep hb (by repeat (first | (with_reducible exact X5) | (with_reducible refine Row5.alloc ?_ _) | (with_reducible refine Row5.drew ?_)))
  have R6 : Row5 w6 (w.heap.size + 1) (.bool false) (.int .u64 0) (.int .u64 0) (.int .u64 0) (.int .u64 0) := Row5.keep hb (by repeat (first | (with_reducible exact R5) | (with_reducible refine Row5.alloc ?_ _) | (with_reducible refine Row5.drew ?_)))
  clear X5 R5
  clear BW5
  clear hb
  go_upto_region 12 with (fail)
  go_name_world w7 hw7
  have BW7 : Below w.heap.size w w7 := by rw [← hw7]; repeat (first | (with_reducible exact BW6) | (with_reducible refine bal ?_ _) | (with_reducible refine Below.drew ?_) | (with_reducible refine bdn ?_ _))
  have hbX : Below w6.heap.size w6 w7 := by rw [← hw7]; repeat (first | (with_reducible exact Below.refl _ _) | (with_reducible refine bal ?_ _) | (with_reducible refine Below.drew ?_) | (with_reducible refine bdn ?_ _))
  have DX7 : DR w7 s1 x := DR.keep hbX DX6
  have DQ7 : DR w7 s2 q := DR.keep hbX DQ6
  have DE7 : DR w7 s3 (q + 1) := DR.keep hbX DE6
  clear hbX DX6 DQ6 DE6
  have X7 : Row5 w7 w.heap.size (.bool false) (.int .u64 (lb 0 x)) (.int .u64 (lb 1 x)) (.int .u64 (lb 2 x)) (.int .u64 (lb 3 x)) := by rw [← hw7]; exact (by repeat (first | (with_reducible exact X6) | (with_reducible refine Row5.alloc ?_ _) | (with_reducible refine Row5.drew ?_)))
  have R7 : Row5 w7 (w.heap.size + 1) (.bool false) (.int .u64 0) (.int .u64 0) (.int .u64 0) (.int .u64 0) := by rw [← hw7]; exact (by repeat (first | (with_reducible exact R6) | (with_reducible refine Row5.alloc ?_ _) | (with_reducible refine Row5.drew ?_)))
  clear X6 R6
  clear BW6
  clear hw7
  have lt_X := X7.lt
  have lt_R := R7.lt
  go_region_held3 (fun w' => w'.cell? ⟨w.heap.size, 0, none⟩ = some (.bool false) ∧ w'.cell? ⟨w.heap.size, 1, none⟩ = some (.int .u64 (lb 0 x)) ∧ w'.cell? ⟨w.heap.size, 2, none⟩ = some (.int .u64 (lb 1 x)) ∧ w'.cell? ⟨w.heap.size, 3, none⟩ = some (.int .u64 (lb 2 x)) ∧ w'.cell? ⟨w.heap.size, 4, none⟩ = some (.int .u64 (lb 3 x)))
    ((refine Row5.parts ?_; (repeat (first | (with_reducible assumption) | (with_reducible refine Row5.alloc ?_ _) | (with_reducible refine Row5.drew ?_) | (with_reducible refine Row5.drewN ?_ _) | ((with_reducible refine Row5.set ?_ ?_ _); rotate_left; (focus (omega))))); done))
    (first | (go_at_call 49; (with_reducible refine (K5.out _ _ (DR.keep (by repeat (first | (with_reducible exact Below.refl _ _) | (with_reducible refine bal ?_ _) | (with_reducible refine Below.drew ?_) | (with_reducible refine bdn ?_ _))) DE7)).mono ?_); rintro e wa ⟨sa, rfl, hra, hba⟩; have ba : Below w.heap.size w wa := btr (by repeat (first | (with_reducible exact BW7) | (with_reducible refine bal ?_ _) | (with_reducible refine Below.drew ?_) | (with_reducible refine bdn ?_ _))) hba; have Xa : Row5 wa w.heap.size (.bool false) (.int .u64 (lb 0 x)) (.int .u64 (lb 1 x)) (.int .u64 (lb 2 x)) (.int .u64 (lb 3 x)) := Row5.keep hba (by repeat (first | (with_reducible exact X7) | (with_reducible refine Row5.alloc ?_ _) | (with_reducible refine Row5.drew ?_) | (with_reducible refine Row5.drewN ?_ _))); have Ra : Row5 wa (w.heap.size + 1) (.bool false) (.int .u64 0) (.int .u64 0) (.int .u64 0) (.int .u64 0) := Row5.keep hba (by repeat (first | (with_reducible exact R7) | (with_reducible refine Row5.alloc ?_ _) | (with_reducible refine Row5.drew ?_) | (with_reducible refine Row5.drewN ?_ _))); obtain ⟨xa0, xa1, xa2, xa3, xa4⟩ := Xa.parts) | (go_at_call 51; (with_reducible refine (KW.out _ _ (DR.keep (by repeat (first | (with_reducible exact Below.refl _ _) | (with_reducible refine bal ?_ _) | (with_reducible refine Below.drew ?_) | (with_reducible refine bdn ?_ _))) hra)).mono ?_); rintro e wb ⟨rfl, hbb⟩; have bb : Below w.heap.size w wb := btr (by repeat (first | (with_reducible exact ba) | (with_reducible refine bal ?_ _) | (with_reducible refine Below.drew ?_) | (with_reducible refine bdn ?_ _))) hbb; have Rb : Row5 wb (w.heap.size + 1) (.bool false) (.int .u64 0) (.int .u64 0) (.int .u64 0) (.int .u64 0) := Row5.keep hbb (by repeat (first | (with_reducible exact Ra) | (with_reducible refine Row5.alloc ?_ _) | (with_reducible refine Row5.drew ?_) | (with_reducible refine Row5.drewN ?_ _))); have Xb : Row5 wb w.heap.size (.bool false) (.int .u64 (lb 0 x)) (.int .u64 (lb 1 x)) (.int .u64 (lb 2 x)) (.int .u64 (lb 3 x)) := Row5.keep hbb (by repeat (first | (with_reducible exact Xa) | (with_reducible refine Row5.alloc ?_ _) | (with_reducible refine Row5.drew ?_) | (with_reducible refine Row5.drewN ?_ _))); obtain ⟨rb0, rb1, rb2, rb3, rb4⟩ := Rb.parts; obtain ⟨rg0, rg1, rg2, rg3, rg4⟩ := Rb.free; have ltb := Rb.lt; have ltc := Xb.lt; have nbx : ¬ w.heap.size + 1 = w.heap.size := by omega))
  all_goals
    go_wp2
    exact bodyPost_ret (v := .tuple #[.agg #[.bool h, .int .u64 y0, .int .u64 y1, .int .u64 y2, .int .u64 y3], .bool b]) (by simp [results, Tryz.results24, go_sem, rb0, rb1, rb2, rb3, rb4]) rfl ⟨rfl, by repeat (first | (with_reducible exact bb) | (with_reducible refine bal ?_ _) | (with_reducible refine Below.drew ?_) | (with_reducible refine bdn ?_ _) | ((with_reducible refine bsc ?_ ?_ _); rotate_left; (focus (simp only []; omega))))⟩
set_option maxHeartbeats 4000000 in
set_option maxRecDepth 100000 in
theorem rnear_cut_false (x : Nat) (hx : x < 2 ^ 256) (h : Bool) (y0 y1 y2 y3 : Int) (b : Bool) (L k q v : Nat) (hk : (L : Int) - 53 = (k : Int)) (hk2 : k ≤ 300) (w : World)
    (k1 : ∀ W, Calls Tryz.prog 30 #[I5 false x] W fun e w' => e = .returned (.bool true) ∧ Below W.heap.size W w')
    (k2 : ∀ W, Calls Tryz.prog 9 #[I5 false x] W fun e w' => e = .returned (.bool false) ∧ Below W.heap.size W w')
    (k3 : ∀ s' W, DR W s' x → Calls Tryz.prog 31 #[s'] W fun e w' => e = .returned (.int .i64 (L : Int)) ∧ Below W.heap.size W w')
    (k4 : ∀ s' W, DR W s' x → Calls Tryz.prog 49 #[s', .int .i64 (-(k : Int))] W fun e w' => ∃ s2, e = .returned s2 ∧ DR w' s2 q ∧ Below W.heap.size W w')
    (k5 : ∀ s' W, DR W s' q → Calls Tryz.prog 49 #[s', .int .i64 (k : Int)] W fun e w' => ∃ s2, e = .returned s2 ∧ DR w' s2 v ∧ Below W.heap.size W w')
    (kw : ∀ s' W, DR W s' v → Calls Tryz.prog 51 #[.bool false, s'] W fun e w' => e = .returned (.tuple #[.agg #[.bool h, .int .u64 y0, .int .u64 y1, .int .u64 y2, .int .u64 y3], .bool b]) ∧ Below W.heap.size W w') :
    Calls Tryz.prog 24 #[I5 false x, .bool false, .bool true] w fun e w' => e = .returned (.tuple #[.agg #[.bool h, .int .u64 y0, .int .u64 y1, .int .u64 y2, .int .u64 y3], .bool b]) ∧ Below w.heap.size w w' := by
  unfold I5 at *
  have HX := Lib.hid hx; have K1 := Lib.hid k1; have K2 := Lib.hid k2; have K3 := Lib.hid k3; have K4 := Lib.hid k4; have K5 := Lib.hid k5; have KW := Lib.hid kw; clear hx k1 k2 k3 k4 k5 kw
  have L1 := Lib.hid (digs_eight HX.out); have L2 := Lib.hid (digs_eight (show 1 < 2 ^ 256 by decide)); have L3 := Lib.hid (digs_eight (show 2 ^ 53 < 2 ^ 256 by decide))
  go_enter Tryz.func24, Tryz.ntmps24
  go_wp2_with fail
  refine (K1.out _).mono ?_
  rintro e w1 ⟨rfl, hb⟩
  have BW1 : Below w.heap.size w w1 := btr (by repeat (first | (with_reducible exact Below.refl _ _) | (with_reducible refine bal ?_ _) | (with_reducible refine Below.drew ?_) | (with_reducible refine bdn ?_ _))) hb
  have X1 : Row5 w1 w.heap.size (.bool false) (.int .u64 (lb 0 x)) (.int .u64 (lb 1 x)) (.int .u64 (lb 2 x)) (.int .u64 (lb 3 x)) := Row5.keep hb (by repeat (first | (with_reducible exact Row5.new _ _ _ _ _ _) | ((with_reducible refine Row5.new' _ ?_ _ _ _ _ _); (simp; done)) | (with_reducible refine Row5.alloc ?_ _) | (with_reducible refine Row5.drew ?_)))
  have R1 : Row5 w1 (w.heap.size + 1) (.bool false) (.int .u64 0) (.int .u64 0) (.int .u64 0) (.int .u64 0) := Row5.keep hb (by repeat (first | (with_reducible exact Row5.new _ _ _ _ _ _) | ((with_reducible refine Row5.new' _ ?_ _ _ _ _ _); (simp; done)) | (with_reducible refine Row5.alloc ?_ _) | (with_reducible refine Row5.drew ?_)))
  clear hb
  obtain ⟨Xc0, Xc1, Xc2, Xc3, Xc4⟩ := X1.parts
  obtain ⟨Xf0, Xf1, Xf2, Xf3, Xf4⟩ := X1.free
  go_wp2_with fail
  refine (K2.out _).mono ?_
  rintro e w2 ⟨rfl, hb⟩
  have BW2 : Below w.heap.size w w2 := btr (by repeat (first | (with_reducible exact BW1) | (with_reducible refine bal ?_ _) | (with_reducible refine Below.drew ?_) | (with_reducible refine bdn ?_ _))) hb
  have X2 : Row5 w2 w.heap.size (.bool false) (.int .u64 (lb 0 x)) (.int .u64 (lb 1 x)) (.int .u64 (lb 2 x)) (.int .u64 (lb 3 x)) := Row5.keep hb (by repeat (first | (with_reducible exact X1) | (with_reducible refine Row5.alloc ?_ _) | (with_reducible refine Row5.drew ?_)))
  have R2 : Row5 w2 (w.heap.size + 1) (.bool false) (.int .u64 0) (.int .u64 0) (.int .u64 0) (.int .u64 0) := Row5.keep hb (by repeat (first | (with_reducible exact R1) | (with_reducible refine Row5.alloc ?_ _) | (with_reducible refine Row5.drew ?_)))
  clear X1 R1
  clear BW1
  clear hb
  obtain ⟨Xc0, Xc1, Xc2, Xc3, Xc4⟩ := X2.parts
  obtain ⟨Xf0, Xf1, Xf2, Xf3, Xf4⟩ := X2.free
  go_wp2_with fail
  refine (rof x HX.out _).mono ?_
  rintro e w3 ⟨s1, rfl, hr, hb⟩
  have hbX : Below w2.heap.size w2 w3 := btr (by repeat (first | (with_reducible exact Below.refl _ _) | (with_reducible refine bal ?_ _) | (with_reducible refine Below.drew ?_) | (with_reducible refine bdn ?_ _))) hb
  clear hbX
  have DX3 : DR w3 s1 x := hr
  clear hr
  have BW3 : Below w.heap.size w w3 := btr (by repeat (first | (with_reducible exact BW2) | (with_reducible refine bal ?_ _) | (with_reducible refine Below.drew ?_) | (with_reducible refine bdn ?_ _))) hb
  have X3 : Row5 w3 w.heap.size (.bool false) (.int .u64 (lb 0 x)) (.int .u64 (lb 1 x)) (.int .u64 (lb 2 x)) (.int .u64 (lb 3 x)) := Row5.keep hb (by repeat (first | (with_reducible exact X2) | (with_reducible refine Row5.alloc ?_ _) | (with_reducible refine Row5.drew ?_)))
  have R3 : Row5 w3 (w.heap.size + 1) (.bool false) (.int .u64 0) (.int .u64 0) (.int .u64 0) (.int .u64 0) := Row5.keep hb (by repeat (first | (with_reducible exact R2) | (with_reducible refine Row5.alloc ?_ _) | (with_reducible refine Row5.drew ?_)))
  clear X2 R2
  clear BW2
  clear hb
  obtain ⟨Xc0, Xc1, Xc2, Xc3, Xc4⟩ := X3.parts
  obtain ⟨Xf0, Xf1, Xf2, Xf3, Xf4⟩ := X3.free
  go_wp2_with fail
  refine (K3.out _ _ (DR.keep (by repeat (first | (with_reducible exact Below.refl _ _) | (with_reducible refine bal ?_ _) | (with_reducible refine Below.drew ?_) | (with_reducible refine bdn ?_ _))) DX3)).mono ?_
  rintro e w4 ⟨rfl, hb⟩
  have hbX : Below w3.heap.size w3 w4 := btr (by repeat (first | (with_reducible exact Below.refl _ _) | (with_reducible refine bal ?_ _) | (with_reducible refine Below.drew ?_) | (with_reducible refine bdn ?_ _))) hb
  have DX4 : DR w4 s1 x := DR.keep hbX DX3
  clear DX3
  clear hbX
  have BW4 : Below w.heap.size w w4 := btr (by repeat (first | (with_reducible exact BW3) | (with_reducible refine bal ?_ _) | (with_reducible refine Below.drew ?_) | (with_reducible refine bdn ?_ _))) hb
  have X4 : Row5 w4 w.heap.size (.bool false) (.int .u64 (lb 0 x)) (.int .u64 (lb 1 x)) (.int .u64 (lb 2 x)) (.int .u64 (lb 3 x)) := Row5.keep hb (by repeat (first | (with_reducible exact X3) | (with_reducible refine Row5.alloc ?_ _) | (with_reducible refine Row5.drew ?_)))
  have R4 : Row5 w4 (w.heap.size + 1) (.bool false) (.int .u64 0) (.int .u64 0) (.int .u64 0) (.int .u64 0) := Row5.keep hb (by repeat (first | (with_reducible exact R3) | (with_reducible refine Row5.alloc ?_ _) | (with_reducible refine Row5.drew ?_)))
  clear X3 R3
  clear BW3
  clear hb
  go_wp2_with fail
  refine (K4.out _ _ (DR.keep (by repeat (first | (with_reducible exact Below.refl _ _) | (with_reducible refine bal ?_ _) | (with_reducible refine Below.drew ?_) | (with_reducible refine bdn ?_ _))) DX4)).mono ?_
  rintro e w5 ⟨s2, rfl, hr, hb⟩
  have hbX : Below w4.heap.size w4 w5 := btr (by repeat (first | (with_reducible exact Below.refl _ _) | (with_reducible refine bal ?_ _) | (with_reducible refine Below.drew ?_) | (with_reducible refine bdn ?_ _))) hb
  have DX5 : DR w5 s1 x := DR.keep hbX DX4
  clear DX4
  clear hbX
  have DQ5 : DR w5 s2 q := hr
  clear hr
  have BW5 : Below w.heap.size w w5 := btr (by repeat (first | (with_reducible exact BW4) | (with_reducible refine bal ?_ _) | (with_reducible refine Below.drew ?_) | (with_reducible refine bdn ?_ _))) hb
  have X5 : Row5 w5 w.heap.size (.bool false) (.int .u64 (lb 0 x)) (.int .u64 (lb 1 x)) (.int .u64 (lb 2 x)) (.int .u64 (lb 3 x)) := Row5.keep hb (by repeat (first | (with_reducible exact X4) | (with_reducible refine Row5.alloc ?_ _) | (with_reducible refine Row5.drew ?_)))
  have R5 : Row5 w5 (w.heap.size + 1) (.bool false) (.int .u64 0) (.int .u64 0) (.int .u64 0) (.int .u64 0) := Row5.keep hb (by repeat (first | (with_reducible exact R4) | (with_reducible refine Row5.alloc ?_ _) | (with_reducible refine Row5.drew ?_)))
  clear X4 R4
  clear BW4
  clear hb
  go_upto_region 12 with (fail)
  go_name_world w6 hw6
  have BW6 : Below w.heap.size w w6 := by rw [← hw6]; repeat (first | (with_reducible exact BW5) | (with_reducible refine bal ?_ _) | (with_reducible refine Below.drew ?_) | (with_reducible refine bdn ?_ _))
  have hbX : Below w5.heap.size w5 w6 := by rw [← hw6]; repeat (first | (with_reducible exact Below.refl _ _) | (with_reducible refine bal ?_ _) | (with_reducible refine Below.drew ?_) | (with_reducible refine bdn ?_ _))
  have DX6 : DR w6 s1 x := DR.keep hbX DX5
  have DQ6 : DR w6 s2 q := DR.keep hbX DQ5
  clear hbX DX5 DQ5
  have X6 : Row5 w6 w.heap.size (.bool false) (.int .u64 (lb 0 x)) (.int .u64 (lb 1 x)) (.int .u64 (lb 2 x)) (.int .u64 (lb 3 x)) := by rw [← hw6]; exact (by repeat (first | (with_reducible exact X5) | (with_reducible refine Row5.alloc ?_ _) | (with_reducible refine Row5.drew ?_)))
  have R6 : Row5 w6 (w.heap.size + 1) (.bool false) (.int .u64 0) (.int .u64 0) (.int .u64 0) (.int .u64 0) := by rw [← hw6]; exact (by repeat (first | (with_reducible exact R5) | (with_reducible refine Row5.alloc ?_ _) | (with_reducible refine Row5.drew ?_)))
  clear X5 R5
  clear BW5
  clear hw6
  have lt_X := X6.lt
  have lt_R := R6.lt
  go_region_held3 (fun w' => w'.cell? ⟨w.heap.size, 0, none⟩ = some (.bool false) ∧ w'.cell? ⟨w.heap.size, 1, none⟩ = some (.int .u64 (lb 0 x)) ∧ w'.cell? ⟨w.heap.size, 2, none⟩ = some (.int .u64 (lb 1 x)) ∧ w'.cell? ⟨w.heap.size, 3, none⟩ = some (.int .u64 (lb 2 x)) ∧ w'.cell? ⟨w.heap.size, 4, none⟩ = some (.int .u64 (lb 3 x)))
    ((refine Row5.parts ?_; (repeat (first | (with_reducible assumption) | (with_reducible refine Row5.alloc ?_ _) | (with_reducible refine Row5.drew ?_) | (with_reducible refine Row5.drewN ?_ _) | ((with_reducible refine Row5.set ?_ ?_ _); rotate_left; (focus (omega))))); done))
    (first | (go_at_call 49; (with_reducible refine (K5.out _ _ (DR.keep (by repeat (first | (with_reducible exact Below.refl _ _) | (with_reducible refine bal ?_ _) | (with_reducible refine Below.drew ?_) | (with_reducible refine bdn ?_ _))) DQ6)).mono ?_); rintro e wa ⟨sa, rfl, hra, hba⟩; have ba : Below w.heap.size w wa := btr (by repeat (first | (with_reducible exact BW6) | (with_reducible refine bal ?_ _) | (with_reducible refine Below.drew ?_) | (with_reducible refine bdn ?_ _))) hba; have Xa : Row5 wa w.heap.size (.bool false) (.int .u64 (lb 0 x)) (.int .u64 (lb 1 x)) (.int .u64 (lb 2 x)) (.int .u64 (lb 3 x)) := Row5.keep hba (by repeat (first | (with_reducible exact X6) | (with_reducible refine Row5.alloc ?_ _) | (with_reducible refine Row5.drew ?_) | (with_reducible refine Row5.drewN ?_ _))); have Ra : Row5 wa (w.heap.size + 1) (.bool false) (.int .u64 0) (.int .u64 0) (.int .u64 0) (.int .u64 0) := Row5.keep hba (by repeat (first | (with_reducible exact R6) | (with_reducible refine Row5.alloc ?_ _) | (with_reducible refine Row5.drew ?_) | (with_reducible refine Row5.drewN ?_ _))); obtain ⟨xa0, xa1, xa2, xa3, xa4⟩ := Xa.parts) | (go_at_call 51; (with_reducible refine (KW.out _ _ (DR.keep (by repeat (first | (with_reducible exact Below.refl _ _) | (with_reducible refine bal ?_ _) | (with_reducible refine Below.drew ?_) | (with_reducible refine bdn ?_ _))) hra)).mono ?_); rintro e wb ⟨rfl, hbb⟩; have bb : Below w.heap.size w wb := btr (by repeat (first | (with_reducible exact ba) | (with_reducible refine bal ?_ _) | (with_reducible refine Below.drew ?_) | (with_reducible refine bdn ?_ _))) hbb; have Rb : Row5 wb (w.heap.size + 1) (.bool false) (.int .u64 0) (.int .u64 0) (.int .u64 0) (.int .u64 0) := Row5.keep hbb (by repeat (first | (with_reducible exact Ra) | (with_reducible refine Row5.alloc ?_ _) | (with_reducible refine Row5.drew ?_) | (with_reducible refine Row5.drewN ?_ _))); have Xb : Row5 wb w.heap.size (.bool false) (.int .u64 (lb 0 x)) (.int .u64 (lb 1 x)) (.int .u64 (lb 2 x)) (.int .u64 (lb 3 x)) := Row5.keep hbb (by repeat (first | (with_reducible exact Xa) | (with_reducible refine Row5.alloc ?_ _) | (with_reducible refine Row5.drew ?_) | (with_reducible refine Row5.drewN ?_ _))); obtain ⟨rb0, rb1, rb2, rb3, rb4⟩ := Rb.parts; obtain ⟨rg0, rg1, rg2, rg3, rg4⟩ := Rb.free; have ltb := Rb.lt; have ltc := Xb.lt; have nbx : ¬ w.heap.size + 1 = w.heap.size := by omega))
  all_goals
    go_wp2
    exact bodyPost_ret (v := .tuple #[.agg #[.bool h, .int .u64 y0, .int .u64 y1, .int .u64 y2, .int .u64 y3], .bool b]) (by simp [results, Tryz.results24, go_sem, rb0, rb1, rb2, rb3, rb4]) rfl ⟨rfl, by repeat (first | (with_reducible exact bb) | (with_reducible refine bal ?_ _) | (with_reducible refine Below.drew ?_) | (with_reducible refine bdn ?_ _) | ((with_reducible refine bsc ?_ ?_ _); rotate_left; (focus (simp only []; omega))))⟩
set_option maxHeartbeats 4000000 in
set_option maxRecDepth 100000 in
theorem rnear_least_false (x : Nat) (hx : x < 2 ^ 256) (h : Bool) (y0 y1 y2 y3 : Int) (b : Bool) (L : Nat) (hL : (L : Int) ≤ 53) (w : World)
    (k1 : ∀ W, Calls Tryz.prog 30 #[I5 false x] W fun e w' => e = .returned (.bool true) ∧ Below W.heap.size W w')
    (k2 : ∀ W, Calls Tryz.prog 9 #[I5 false x] W fun e w' => e = .returned (.bool true) ∧ Below W.heap.size W w')
    (k3 : ∀ s' W, DR W s' x → Calls Tryz.prog 31 #[s'] W fun e w' => e = .returned (.int .i64 (L : Int)) ∧ Below W.heap.size W w')
    (kw : ∀ s' W, DR W s' 9007199254740993 → Calls Tryz.prog 51 #[.bool false, s'] W fun e w' => e = .returned (.tuple #[.agg #[.bool h, .int .u64 y0, .int .u64 y1, .int .u64 y2, .int .u64 y3], .bool b]) ∧ Below W.heap.size W w') :
    Calls Tryz.prog 24 #[I5 false x, .bool true, .bool false] w fun e w' => e = .returned (.tuple #[.agg #[.bool h, .int .u64 y0, .int .u64 y1, .int .u64 y2, .int .u64 y3], .bool b]) ∧ Below w.heap.size w w' := by
  unfold I5 at *
  have HX := Lib.hid hx; have K1 := Lib.hid k1; have K2 := Lib.hid k2; have K3 := Lib.hid k3; have KW := Lib.hid kw; clear hx k1 k2 k3 kw
  have L1 := Lib.hid (digs_eight HX.out); have L2 := Lib.hid (digs_eight (show 1 < 2 ^ 256 by decide)); have L3 := Lib.hid (digs_eight (show 2 ^ 53 < 2 ^ 256 by decide))
  go_enter Tryz.func24, Tryz.ntmps24
  go_wp2_with fail
  refine (K1.out _).mono ?_
  rintro e w1 ⟨rfl, hb⟩
  have BW1 : Below w.heap.size w w1 := btr (by repeat (first | (with_reducible exact Below.refl _ _) | (with_reducible refine bal ?_ _) | (with_reducible refine Below.drew ?_) | (with_reducible refine bdn ?_ _))) hb
  have X1 : Row5 w1 w.heap.size (.bool false) (.int .u64 (lb 0 x)) (.int .u64 (lb 1 x)) (.int .u64 (lb 2 x)) (.int .u64 (lb 3 x)) := Row5.keep hb (by repeat (first | (with_reducible exact Row5.new _ _ _ _ _ _) | ((with_reducible refine Row5.new' _ ?_ _ _ _ _ _); (simp; done)) | (with_reducible refine Row5.alloc ?_ _) | (with_reducible refine Row5.drew ?_)))
  have R1 : Row5 w1 (w.heap.size + 1) (.bool false) (.int .u64 0) (.int .u64 0) (.int .u64 0) (.int .u64 0) := Row5.keep hb (by repeat (first | (with_reducible exact Row5.new _ _ _ _ _ _) | ((with_reducible refine Row5.new' _ ?_ _ _ _ _ _); (simp; done)) | (with_reducible refine Row5.alloc ?_ _) | (with_reducible refine Row5.drew ?_)))
  clear hb
  obtain ⟨Xc0, Xc1, Xc2, Xc3, Xc4⟩ := X1.parts
  obtain ⟨Xf0, Xf1, Xf2, Xf3, Xf4⟩ := X1.free
  go_wp2_with fail
  refine (K2.out _).mono ?_
  rintro e w2 ⟨rfl, hb⟩
  have BW2 : Below w.heap.size w w2 := btr (by repeat (first | (with_reducible exact BW1) | (with_reducible refine bal ?_ _) | (with_reducible refine Below.drew ?_) | (with_reducible refine bdn ?_ _))) hb
  have X2 : Row5 w2 w.heap.size (.bool false) (.int .u64 (lb 0 x)) (.int .u64 (lb 1 x)) (.int .u64 (lb 2 x)) (.int .u64 (lb 3 x)) := Row5.keep hb (by repeat (first | (with_reducible exact X1) | (with_reducible refine Row5.alloc ?_ _) | (with_reducible refine Row5.drew ?_)))
  have R2 : Row5 w2 (w.heap.size + 1) (.bool false) (.int .u64 0) (.int .u64 0) (.int .u64 0) (.int .u64 0) := Row5.keep hb (by repeat (first | (with_reducible exact R1) | (with_reducible refine Row5.alloc ?_ _) | (with_reducible refine Row5.drew ?_)))
  clear X1 R1
  clear BW1
  clear hb
  obtain ⟨Xc0, Xc1, Xc2, Xc3, Xc4⟩ := X2.parts
  obtain ⟨Xf0, Xf1, Xf2, Xf3, Xf4⟩ := X2.free
  go_wp2_with fail
  refine (rof x HX.out _).mono ?_
  rintro e w3 ⟨s1, rfl, hr, hb⟩
  have hbX : Below w2.heap.size w2 w3 := btr (by repeat (first | (with_reducible exact Below.refl _ _) | (with_reducible refine bal ?_ _) | (with_reducible refine Below.drew ?_) | (with_reducible refine bdn ?_ _))) hb
  clear hbX
  have DX3 : DR w3 s1 x := hr
  clear hr
  have BW3 : Below w.heap.size w w3 := btr (by repeat (first | (with_reducible exact BW2) | (with_reducible refine bal ?_ _) | (with_reducible refine Below.drew ?_) | (with_reducible refine bdn ?_ _))) hb
  have X3 : Row5 w3 w.heap.size (.bool false) (.int .u64 (lb 0 x)) (.int .u64 (lb 1 x)) (.int .u64 (lb 2 x)) (.int .u64 (lb 3 x)) := Row5.keep hb (by repeat (first | (with_reducible exact X2) | (with_reducible refine Row5.alloc ?_ _) | (with_reducible refine Row5.drew ?_)))
  have R3 : Row5 w3 (w.heap.size + 1) (.bool false) (.int .u64 0) (.int .u64 0) (.int .u64 0) (.int .u64 0) := Row5.keep hb (by repeat (first | (with_reducible exact R2) | (with_reducible refine Row5.alloc ?_ _) | (with_reducible refine Row5.drew ?_)))
  clear X2 R2
  clear BW2
  clear hb
  obtain ⟨Xc0, Xc1, Xc2, Xc3, Xc4⟩ := X3.parts
  obtain ⟨Xf0, Xf1, Xf2, Xf3, Xf4⟩ := X3.free
  go_wp2_with fail
  refine ((rpow_53 _)).mono ?_
  rintro e w4 ⟨s2, rfl, hr, hb⟩
  have hbX : Below w3.heap.size w3 w4 := btr (by repeat (first | (with_reducible exact Below.refl _ _) | (with_reducible refine bal ?_ _) | (with_reducible refine Below.drew ?_) | (with_reducible refine bdn ?_ _))) hb
  have DX4 : DR w4 s1 x := DR.keep hbX DX3
  clear DX3
  clear hbX
  have DP4 : DR w4 s2 (2 ^ 53) := hr
  clear hr
  have BW4 : Below w.heap.size w w4 := btr (by repeat (first | (with_reducible exact BW3) | (with_reducible refine bal ?_ _) | (with_reducible refine Below.drew ?_) | (with_reducible refine bdn ?_ _))) hb
  have X4 : Row5 w4 w.heap.size (.bool false) (.int .u64 (lb 0 x)) (.int .u64 (lb 1 x)) (.int .u64 (lb 2 x)) (.int .u64 (lb 3 x)) := Row5.keep hb (by repeat (first | (with_reducible exact X3) | (with_reducible refine Row5.alloc ?_ _) | (with_reducible refine Row5.drew ?_)))
  have R4 : Row5 w4 (w.heap.size + 1) (.bool false) (.int .u64 0) (.int .u64 0) (.int .u64 0) (.int .u64 0) := Row5.keep hb (by repeat (first | (with_reducible exact R3) | (with_reducible refine Row5.alloc ?_ _) | (with_reducible refine Row5.drew ?_)))
  clear X3 R3
  clear BW3
  clear hb
  go_wp2_with fail
  refine (radd_least (DR.keep (by repeat (first | (with_reducible exact Below.refl _ _) | (with_reducible refine bal ?_ _) | (with_reducible refine Below.drew ?_) | (with_reducible refine bdn ?_ _))) DP4) (DR.keep (by repeat (first | (with_reducible exact Below.refl _ _) | (with_reducible refine bal ?_ _) | (with_reducible refine Below.drew ?_) | (with_reducible refine bdn ?_ _))) (ten_new w4 1 (by decide) (by decide) 1 rfl)) L3.out L2.out).mono ?_
  rintro e w5 ⟨s3, rfl, hr, hb⟩
  have hbX : Below w4.heap.size w4 w5 := btr (by repeat (first | (with_reducible exact Below.refl _ _) | (with_reducible refine bal ?_ _) | (with_reducible refine Below.drew ?_) | (with_reducible refine bdn ?_ _))) hb
  have DX5 : DR w5 s1 x := DR.keep hbX DX4
  have DP5 : DR w5 s2 (2 ^ 53) := DR.keep hbX DP4
  clear DX4 DP4
  clear hbX
  have DL5 : DR w5 s3 9007199254740993 := hr
  clear hr
  have BW5 : Below w.heap.size w w5 := btr (by repeat (first | (with_reducible exact BW4) | (with_reducible refine bal ?_ _) | (with_reducible refine Below.drew ?_) | (with_reducible refine bdn ?_ _))) hb
  have X5 : Row5 w5 w.heap.size (.bool false) (.int .u64 (lb 0 x)) (.int .u64 (lb 1 x)) (.int .u64 (lb 2 x)) (.int .u64 (lb 3 x)) := Row5.keep hb (by repeat (first | (with_reducible exact X4) | (with_reducible refine Row5.alloc ?_ _) | (with_reducible refine Row5.drew ?_)))
  have R5 : Row5 w5 (w.heap.size + 1) (.bool false) (.int .u64 0) (.int .u64 0) (.int .u64 0) (.int .u64 0) := Row5.keep hb (by repeat (first | (with_reducible exact R4) | (with_reducible refine Row5.alloc ?_ _) | (with_reducible refine Row5.drew ?_)))
  clear X4 R4
  clear BW4
  clear hb
  go_wp2_with fail
  refine (K3.out _ _ (DR.keep (by repeat (first | (with_reducible exact Below.refl _ _) | (with_reducible refine bal ?_ _) | (with_reducible refine Below.drew ?_) | (with_reducible refine bdn ?_ _))) DX5)).mono ?_
  rintro e w6 ⟨rfl, hb⟩
  have hbX : Below w5.heap.size w5 w6 := btr (by repeat (first | (with_reducible exact Below.refl _ _) | (with_reducible refine bal ?_ _) | (with_reducible refine Below.drew ?_) | (with_reducible refine bdn ?_ _))) hb
  have DX6 : DR w6 s1 x := DR.keep hbX DX5
  have DP6 : DR w6 s2 (2 ^ 53) := DR.keep hbX DP5
  have DL6 : DR w6 s3 9007199254740993 := DR.keep hbX DL5
  clear DX5 DP5 DL5
  clear hbX
  have BW6 : Below w.heap.size w w6 := btr (by repeat (first | (with_reducible exact BW5) | (with_reducible refine bal ?_ _) | (with_reducible refine Below.drew ?_) | (with_reducible refine bdn ?_ _))) hb
  have X6 : Row5 w6 w.heap.size (.bool false) (.int .u64 (lb 0 x)) (.int .u64 (lb 1 x)) (.int .u64 (lb 2 x)) (.int .u64 (lb 3 x)) := Row5.keep hb (by repeat (first | (with_reducible exact X5) | (with_reducible refine Row5.alloc ?_ _) | (with_reducible refine Row5.drew ?_)))
  have R6 : Row5 w6 (w.heap.size + 1) (.bool false) (.int .u64 0) (.int .u64 0) (.int .u64 0) (.int .u64 0) := Row5.keep hb (by repeat (first | (with_reducible exact R5) | (with_reducible refine Row5.alloc ?_ _) | (with_reducible refine Row5.drew ?_)))
  clear X5 R5
  clear BW5
  clear hb
  obtain ⟨Xc0, Xc1, Xc2, Xc3, Xc4⟩ := X6.parts
  obtain ⟨Xf0, Xf1, Xf2, Xf3, Xf4⟩ := X6.free
  go_wp2_with fail
  refine (KW.out _ _ (DR.keep (by repeat (first | (with_reducible exact Below.refl _ _) | (with_reducible refine bal ?_ _) | (with_reducible refine Below.drew ?_) | (with_reducible refine bdn ?_ _))) DL6)).mono ?_
  rintro e w7 ⟨rfl, hb⟩
  have hbX : Below w6.heap.size w6 w7 := btr (by repeat (first | (with_reducible exact Below.refl _ _) | (with_reducible refine bal ?_ _) | (with_reducible refine Below.drew ?_) | (with_reducible refine bdn ?_ _))) hb
  have DX7 : DR w7 s1 x := DR.keep hbX DX6
  have DP7 : DR w7 s2 (2 ^ 53) := DR.keep hbX DP6
  have DL7 : DR w7 s3 9007199254740993 := DR.keep hbX DL6
  clear DX6 DP6 DL6
  clear hbX
  have BW7 : Below w.heap.size w w7 := btr (by repeat (first | (with_reducible exact BW6) | (with_reducible refine bal ?_ _) | (with_reducible refine Below.drew ?_) | (with_reducible refine bdn ?_ _))) hb
  have X7 : Row5 w7 w.heap.size (.bool false) (.int .u64 (lb 0 x)) (.int .u64 (lb 1 x)) (.int .u64 (lb 2 x)) (.int .u64 (lb 3 x)) := Row5.keep hb (by repeat (first | (with_reducible exact X6) | (with_reducible refine Row5.alloc ?_ _) | (with_reducible refine Row5.drew ?_)))
  have R7 : Row5 w7 (w.heap.size + 1) (.bool false) (.int .u64 0) (.int .u64 0) (.int .u64 0) (.int .u64 0) := Row5.keep hb (by repeat (first | (with_reducible exact R6) | (with_reducible refine Row5.alloc ?_ _) | (with_reducible refine Row5.drew ?_)))
  clear X6 R6
  clear BW6
  clear hb
  obtain ⟨Rc0, Rc1, Rc2, Rc3, Rc4⟩ := R7.parts
  obtain ⟨Rf0, Rf1, Rf2, Rf3, Rf4⟩ := R7.free
  have lt_R := R7.lt
  go_wp2
  exact bodyPost_ret (v := .tuple #[.agg #[.bool h, .int .u64 y0, .int .u64 y1, .int .u64 y2, .int .u64 y3], .bool b]) (by simp [results, Tryz.results24, go_sem, Rc0, Rc1, Rc2, Rc3, Rc4]) rfl ⟨rfl, by repeat (first | (with_reducible exact BW7) | (with_reducible refine bal ?_ _) | (with_reducible refine Below.drew ?_) | (with_reducible refine bdn ?_ _) | ((with_reducible refine bsc ?_ ?_ _); rotate_left; (focus (simp only []; omega))))⟩
set_option maxHeartbeats 4000000 in
set_option maxRecDepth 100000 in
theorem rnear_grow_false (x : Nat) (hx : x < 2 ^ 256) (h : Bool) (y0 y1 y2 y3 : Int) (b : Bool) (L : Nat) (hL : 53 < (L : Int)) (w : World)
    (k1 : ∀ W, Calls Tryz.prog 30 #[I5 false x] W fun e w' => e = .returned (.bool true) ∧ Below W.heap.size W w')
    (k2 : ∀ W, Calls Tryz.prog 9 #[I5 false x] W fun e w' => e = .returned (.bool true) ∧ Below W.heap.size W w')
    (k3 : ∀ s' W, DR W s' x → Calls Tryz.prog 31 #[s'] W fun e w' => e = .returned (.int .i64 (L : Int)) ∧ Below W.heap.size W w')
    (kw : ∀ s' W, DR W s' (x + 1) → Calls Tryz.prog 51 #[.bool false, s'] W fun e w' => e = .returned (.tuple #[.agg #[.bool h, .int .u64 y0, .int .u64 y1, .int .u64 y2, .int .u64 y3], .bool b]) ∧ Below W.heap.size W w')
    (ko : ∀ W, Calls Tryz.prog 53 #[.agg #[.bool h, .int .u64 y0, .int .u64 y1, .int .u64 y2, .int .u64 y3], .bool b, .bool true] W fun e w' => e = .returned (.tuple #[.agg #[.bool h, .int .u64 y0, .int .u64 y1, .int .u64 y2, .int .u64 y3], .bool b]) ∧ Below W.heap.size W w') :
    Calls Tryz.prog 24 #[I5 false x, .bool true, .bool false] w fun e w' => e = .returned (.tuple #[.agg #[.bool h, .int .u64 y0, .int .u64 y1, .int .u64 y2, .int .u64 y3], .bool b]) ∧ Below w.heap.size w w' := by
  unfold I5 at *
  have HX := Lib.hid hx; have K1 := Lib.hid k1; have K2 := Lib.hid k2; have K3 := Lib.hid k3; have KW := Lib.hid kw; have KO := Lib.hid ko; clear hx k1 k2 k3 kw ko
  have L1 := Lib.hid (digs_eight HX.out); have L2 := Lib.hid (digs_eight (show 1 < 2 ^ 256 by decide)); have L3 := Lib.hid (digs_eight (show 2 ^ 53 < 2 ^ 256 by decide))
  go_enter Tryz.func24, Tryz.ntmps24
  go_wp2_with fail
  refine (K1.out _).mono ?_
  rintro e w1 ⟨rfl, hb⟩
  have BW1 : Below w.heap.size w w1 := btr (by repeat (first | (with_reducible exact Below.refl _ _) | (with_reducible refine bal ?_ _) | (with_reducible refine Below.drew ?_) | (with_reducible refine bdn ?_ _))) hb
  have X1 : Row5 w1 w.heap.size (.bool false) (.int .u64 (lb 0 x)) (.int .u64 (lb 1 x)) (.int .u64 (lb 2 x)) (.int .u64 (lb 3 x)) := Row5.keep hb (by repeat (first | (with_reducible exact Row5.new _ _ _ _ _ _) | ((with_reducible refine Row5.new' _ ?_ _ _ _ _ _); (simp; done)) | (with_reducible refine Row5.alloc ?_ _) | (with_reducible refine Row5.drew ?_)))
  have R1 : Row5 w1 (w.heap.size + 1) (.bool false) (.int .u64 0) (.int .u64 0) (.int .u64 0) (.int .u64 0) := Row5.keep hb (by repeat (first | (with_reducible exact Row5.new _ _ _ _ _ _) | ((with_reducible refine Row5.new' _ ?_ _ _ _ _ _); (simp; done)) | (with_reducible refine Row5.alloc ?_ _) | (with_reducible refine Row5.drew ?_)))
  clear hb
  obtain ⟨Xc0, Xc1, Xc2, Xc3, Xc4⟩ := X1.parts
  obtain ⟨Xf0, Xf1, Xf2, Xf3, Xf4⟩ := X1.free
  go_wp2_with fail
  refine (K2.out _).mono ?_
  rintro e w2 ⟨rfl, hb⟩
  have BW2 : Below w.heap.size w w2 := btr (by repeat (first | (with_reducible exact BW1) | (with_reducible refine bal ?_ _) | (with_reducible refine Below.drew ?_) | (with_reducible refine bdn ?_ _))) hb
  have X2 : Row5 w2 w.heap.size (.bool false) (.int .u64 (lb 0 x)) (.int .u64 (lb 1 x)) (.int .u64 (lb 2 x)) (.int .u64 (lb 3 x)) := Row5.keep hb (by repeat (first | (with_reducible exact X1) | (with_reducible refine Row5.alloc ?_ _) | (with_reducible refine Row5.drew ?_)))
  have R2 : Row5 w2 (w.heap.size + 1) (.bool false) (.int .u64 0) (.int .u64 0) (.int .u64 0) (.int .u64 0) := Row5.keep hb (by repeat (first | (with_reducible exact R1) | (with_reducible refine Row5.alloc ?_ _) | (with_reducible refine Row5.drew ?_)))
  clear X1 R1
  clear BW1
  clear hb
  obtain ⟨Xc0, Xc1, Xc2, Xc3, Xc4⟩ := X2.parts
  obtain ⟨Xf0, Xf1, Xf2, Xf3, Xf4⟩ := X2.free
  go_wp2_with fail
  refine (rof x HX.out _).mono ?_
  rintro e w3 ⟨s1, rfl, hr, hb⟩
  have hbX : Below w2.heap.size w2 w3 := btr (by repeat (first | (with_reducible exact Below.refl _ _) | (with_reducible refine bal ?_ _) | (with_reducible refine Below.drew ?_) | (with_reducible refine bdn ?_ _))) hb
  clear hbX
  have DX3 : DR w3 s1 x := hr
  clear hr
  have BW3 : Below w.heap.size w w3 := btr (by repeat (first | (with_reducible exact BW2) | (with_reducible refine bal ?_ _) | (with_reducible refine Below.drew ?_) | (with_reducible refine bdn ?_ _))) hb
  have X3 : Row5 w3 w.heap.size (.bool false) (.int .u64 (lb 0 x)) (.int .u64 (lb 1 x)) (.int .u64 (lb 2 x)) (.int .u64 (lb 3 x)) := Row5.keep hb (by repeat (first | (with_reducible exact X2) | (with_reducible refine Row5.alloc ?_ _) | (with_reducible refine Row5.drew ?_)))
  have R3 : Row5 w3 (w.heap.size + 1) (.bool false) (.int .u64 0) (.int .u64 0) (.int .u64 0) (.int .u64 0) := Row5.keep hb (by repeat (first | (with_reducible exact R2) | (with_reducible refine Row5.alloc ?_ _) | (with_reducible refine Row5.drew ?_)))
  clear X2 R2
  clear BW2
  clear hb
  obtain ⟨Xc0, Xc1, Xc2, Xc3, Xc4⟩ := X3.parts
  obtain ⟨Xf0, Xf1, Xf2, Xf3, Xf4⟩ := X3.free
  go_wp2_with fail
  refine ((rpow_53 _)).mono ?_
  rintro e w4 ⟨s2, rfl, hr, hb⟩
  have hbX : Below w3.heap.size w3 w4 := btr (by repeat (first | (with_reducible exact Below.refl _ _) | (with_reducible refine bal ?_ _) | (with_reducible refine Below.drew ?_) | (with_reducible refine bdn ?_ _))) hb
  have DX4 : DR w4 s1 x := DR.keep hbX DX3
  clear DX3
  clear hbX
  have DP4 : DR w4 s2 (2 ^ 53) := hr
  clear hr
  have BW4 : Below w.heap.size w w4 := btr (by repeat (first | (with_reducible exact BW3) | (with_reducible refine bal ?_ _) | (with_reducible refine Below.drew ?_) | (with_reducible refine bdn ?_ _))) hb
  have X4 : Row5 w4 w.heap.size (.bool false) (.int .u64 (lb 0 x)) (.int .u64 (lb 1 x)) (.int .u64 (lb 2 x)) (.int .u64 (lb 3 x)) := Row5.keep hb (by repeat (first | (with_reducible exact X3) | (with_reducible refine Row5.alloc ?_ _) | (with_reducible refine Row5.drew ?_)))
  have R4 : Row5 w4 (w.heap.size + 1) (.bool false) (.int .u64 0) (.int .u64 0) (.int .u64 0) (.int .u64 0) := Row5.keep hb (by repeat (first | (with_reducible exact R3) | (with_reducible refine Row5.alloc ?_ _) | (with_reducible refine Row5.drew ?_)))
  clear X3 R3
  clear BW3
  clear hb
  go_wp2_with fail
  refine (radd_least (DR.keep (by repeat (first | (with_reducible exact Below.refl _ _) | (with_reducible refine bal ?_ _) | (with_reducible refine Below.drew ?_) | (with_reducible refine bdn ?_ _))) DP4) (DR.keep (by repeat (first | (with_reducible exact Below.refl _ _) | (with_reducible refine bal ?_ _) | (with_reducible refine Below.drew ?_) | (with_reducible refine bdn ?_ _))) (ten_new w4 1 (by decide) (by decide) 1 rfl)) L3.out L2.out).mono ?_
  rintro e w5 ⟨s3, rfl, hr, hb⟩
  have hbX : Below w4.heap.size w4 w5 := btr (by repeat (first | (with_reducible exact Below.refl _ _) | (with_reducible refine bal ?_ _) | (with_reducible refine Below.drew ?_) | (with_reducible refine bdn ?_ _))) hb
  have DX5 : DR w5 s1 x := DR.keep hbX DX4
  have DP5 : DR w5 s2 (2 ^ 53) := DR.keep hbX DP4
  clear DX4 DP4
  clear hbX
  have DL5 : DR w5 s3 9007199254740993 := hr
  clear hr
  have BW5 : Below w.heap.size w w5 := btr (by repeat (first | (with_reducible exact BW4) | (with_reducible refine bal ?_ _) | (with_reducible refine Below.drew ?_) | (with_reducible refine bdn ?_ _))) hb
  have X5 : Row5 w5 w.heap.size (.bool false) (.int .u64 (lb 0 x)) (.int .u64 (lb 1 x)) (.int .u64 (lb 2 x)) (.int .u64 (lb 3 x)) := Row5.keep hb (by repeat (first | (with_reducible exact X4) | (with_reducible refine Row5.alloc ?_ _) | (with_reducible refine Row5.drew ?_)))
  have R5 : Row5 w5 (w.heap.size + 1) (.bool false) (.int .u64 0) (.int .u64 0) (.int .u64 0) (.int .u64 0) := Row5.keep hb (by repeat (first | (with_reducible exact R4) | (with_reducible refine Row5.alloc ?_ _) | (with_reducible refine Row5.drew ?_)))
  clear X4 R4
  clear BW4
  clear hb
  go_wp2_with fail
  refine (K3.out _ _ (DR.keep (by repeat (first | (with_reducible exact Below.refl _ _) | (with_reducible refine bal ?_ _) | (with_reducible refine Below.drew ?_) | (with_reducible refine bdn ?_ _))) DX5)).mono ?_
  rintro e w6 ⟨rfl, hb⟩
  have hbX : Below w5.heap.size w5 w6 := btr (by repeat (first | (with_reducible exact Below.refl _ _) | (with_reducible refine bal ?_ _) | (with_reducible refine Below.drew ?_) | (with_reducible refine bdn ?_ _))) hb
  have DX6 : DR w6 s1 x := DR.keep hbX DX5
  have DP6 : DR w6 s2 (2 ^ 53) := DR.keep hbX DP5
  have DL6 : DR w6 s3 9007199254740993 := DR.keep hbX DL5
  clear DX5 DP5 DL5
  clear hbX
  have BW6 : Below w.heap.size w w6 := btr (by repeat (first | (with_reducible exact BW5) | (with_reducible refine bal ?_ _) | (with_reducible refine Below.drew ?_) | (with_reducible refine bdn ?_ _))) hb
  have X6 : Row5 w6 w.heap.size (.bool false) (.int .u64 (lb 0 x)) (.int .u64 (lb 1 x)) (.int .u64 (lb 2 x)) (.int .u64 (lb 3 x)) := Row5.keep hb (by repeat (first | (with_reducible exact X5) | (with_reducible refine Row5.alloc ?_ _) | (with_reducible refine Row5.drew ?_)))
  have R6 : Row5 w6 (w.heap.size + 1) (.bool false) (.int .u64 0) (.int .u64 0) (.int .u64 0) (.int .u64 0) := Row5.keep hb (by repeat (first | (with_reducible exact R5) | (with_reducible refine Row5.alloc ?_ _) | (with_reducible refine Row5.drew ?_)))
  clear X5 R5
  clear BW5
  clear hb
  obtain ⟨Xc0, Xc1, Xc2, Xc3, Xc4⟩ := X6.parts
  obtain ⟨Xf0, Xf1, Xf2, Xf3, Xf4⟩ := X6.free
  go_upto_region 17 with (fail)
  go_name_world w7 hw7
  have BW7 : Below w.heap.size w w7 := by rw [← hw7]; repeat (first | (with_reducible exact BW6) | (with_reducible refine bal ?_ _) | (with_reducible refine Below.drew ?_) | (with_reducible refine bdn ?_ _))
  have hbX : Below w6.heap.size w6 w7 := by rw [← hw7]; repeat (first | (with_reducible exact Below.refl _ _) | (with_reducible refine bal ?_ _) | (with_reducible refine Below.drew ?_) | (with_reducible refine bdn ?_ _))
  have DX7 : DR w7 s1 x := DR.keep hbX DX6
  have DP7 : DR w7 s2 (2 ^ 53) := DR.keep hbX DP6
  have DL7 : DR w7 s3 9007199254740993 := DR.keep hbX DL6
  clear hbX DX6 DP6 DL6
  have X7 : Row5 w7 w.heap.size (.bool false) (.int .u64 (lb 0 x)) (.int .u64 (lb 1 x)) (.int .u64 (lb 2 x)) (.int .u64 (lb 3 x)) := by rw [← hw7]; exact (by repeat (first | (with_reducible exact X6) | (with_reducible refine Row5.alloc ?_ _) | (with_reducible refine Row5.drew ?_)))
  have R7 : Row5 w7 (w.heap.size + 1) (.bool false) (.int .u64 0) (.int .u64 0) (.int .u64 0) (.int .u64 0) := by rw [← hw7]; exact (by repeat (first | (with_reducible exact R6) | (with_reducible refine Row5.alloc ?_ _) | (with_reducible refine Row5.drew ?_)))
  clear X6 R6
  clear BW6
  clear hw7
  have lt_X := X7.lt
  have lt_R := R7.lt
  go_cut [13, 14] (fun s13 s14 wx => ∃ p : Nat, s13 = .pointer (some ⟨p, 0, none⟩) ∧ s14 = .bool b ∧ Row5 wx p (.bool h) (.int .u64 y0) (.int .u64 y1) (.int .u64 y2) (.int .u64 y3) ∧ w7.heap.size ≤ p ∧ Below w7.heap.size w7 wx)
  case first =>
    go_region_held3 (fun w' => w'.cell? ⟨w.heap.size, 0, none⟩ = some (.bool false) ∧ w'.cell? ⟨w.heap.size, 1, none⟩ = some (.int .u64 (lb 0 x)) ∧ w'.cell? ⟨w.heap.size, 2, none⟩ = some (.int .u64 (lb 1 x)) ∧ w'.cell? ⟨w.heap.size, 3, none⟩ = some (.int .u64 (lb 2 x)) ∧ w'.cell? ⟨w.heap.size, 4, none⟩ = some (.int .u64 (lb 3 x)))
      ((refine Row5.parts ?_; (repeat (first | (with_reducible assumption) | (with_reducible refine Row5.alloc ?_ _) | (with_reducible refine Row5.drew ?_) | ((with_reducible refine Row5.set ?_ ?_ _); rotate_left; (focus (omega))))); done))
      (first | (go_at_call 50; (with_reducible refine (radd (DR.keep (by repeat (first | (with_reducible exact Below.refl _ _) | (with_reducible refine bal ?_ _) | (with_reducible refine Below.drew ?_) | (with_reducible refine bdn ?_ _))) DX7) (DR.keep (by repeat (first | (with_reducible exact Below.refl _ _) | (with_reducible refine bal ?_ _) | (with_reducible refine Below.drew ?_) | (with_reducible refine bdn ?_ _))) (ten_at _ _ 1 1 (by first | rfl | (simp; done)) (by decide) (by decide) rfl)) L1.out L2.out).mono ?_); rintro e wf1 ⟨sa, rfl, hra, hb1⟩; have Xf1 : Row5 wf1 w.heap.size (.bool false) (.int .u64 (lb 0 x)) (.int .u64 (lb 1 x)) (.int .u64 (lb 2 x)) (.int .u64 (lb 3 x)) := Row5.keep hb1 (by repeat (first | (with_reducible assumption) | (with_reducible refine Row5.alloc ?_ _) | (with_reducible refine Row5.drew ?_))); have ltXf1 := Xf1.lt; (first | (refine absorb (P := Row5 wf1 w7.heap.size (.bool false) (.int .u64 0) (.int .u64 0) (.int .u64 0) (.int .u64 0)) (Row5.keep hb1 ?_) (fun Z1 => ?_); (focus ((repeat (first | ((with_reducible refine Row5.new' _ ?_ _ _ _ _ _); (simp; done)) | (with_reducible refine Row5.alloc ?_ _) | (with_reducible refine Row5.drew ?_))); done))) | (refine absorb (P := Row5 wf1 (w7.heap.size + 1) (.bool false) (.int .u64 0) (.int .u64 0) (.int .u64 0) (.int .u64 0)) (Row5.keep hb1 ?_) (fun Z1 => ?_); (focus ((repeat (first | ((with_reducible refine Row5.new' _ ?_ _ _ _ _ _); (simp; done)) | (with_reducible refine Row5.alloc ?_ _) | (with_reducible refine Row5.drew ?_))); done))) | skip); (first | (obtain ⟨zc0, zc1, zc2, zc3, zc4⟩ := Z1.parts; obtain ⟨zf0, zf1, zf2, zf3, zf4⟩ := Z1.free) | skip)) | (go_at_call 51; (with_reducible refine (KW.out _ _ (DR.keep (by repeat (first | (with_reducible exact Below.refl _ _) | (with_reducible refine bal ?_ _) | (with_reducible refine Below.drew ?_) | (with_reducible refine bdn ?_ _))) hra)).mono ?_); rintro e wf2 ⟨rfl, hb2⟩; have Xf2 : Row5 wf2 w.heap.size (.bool false) (.int .u64 (lb 0 x)) (.int .u64 (lb 1 x)) (.int .u64 (lb 2 x)) (.int .u64 (lb 3 x)) := Row5.keep hb2 (by repeat (first | (with_reducible assumption) | (with_reducible refine Row5.alloc ?_ _) | (with_reducible refine Row5.drew ?_))); have ltXf2 := Xf2.lt; (first | (refine absorb (P := Row5 wf2 w7.heap.size (.bool false) (.int .u64 0) (.int .u64 0) (.int .u64 0) (.int .u64 0)) (Row5.keep hb2 ?_) (fun Z2 => ?_); (focus ((repeat (first | (with_reducible exact Z1) | (with_reducible refine Row5.alloc ?_ _) | (with_reducible refine Row5.drew ?_))); done))) | (refine absorb (P := Row5 wf2 (w7.heap.size + 1) (.bool false) (.int .u64 0) (.int .u64 0) (.int .u64 0) (.int .u64 0)) (Row5.keep hb2 ?_) (fun Z2 => ?_); (focus ((repeat (first | (with_reducible exact Z1) | (with_reducible refine Row5.alloc ?_ _) | (with_reducible refine Row5.drew ?_))); done))) | (refine absorb (P := Row5 wf2 wf1.heap.size (.bool false) (.int .u64 0) (.int .u64 0) (.int .u64 0) (.int .u64 0)) (Row5.keep hb2 ?_) (fun Z2 => ?_); (focus ((repeat (first | ((with_reducible refine Row5.new' _ ?_ _ _ _ _ _); (simp; done)) | (with_reducible refine Row5.alloc ?_ _) | (with_reducible refine Row5.drew ?_))); done))) | skip); (first | (obtain ⟨zc0, zc1, zc2, zc3, zc4⟩ := Z2.parts; obtain ⟨zf0, zf1, zf2, zf3, zf4⟩ := Z2.free) | skip)))
    all_goals
      have BB1 : Below w7.heap.size w7 wf1 := btr (by repeat (first | (with_reducible exact Below.refl _ _) | (with_reducible refine bal ?_ _) | (with_reducible refine Below.drew ?_) | (with_reducible refine bdn ?_ _))) hb1
      have BB2 : Below w7.heap.size w7 wf2 := btr (by repeat (first | (with_reducible exact BB1) | (with_reducible refine bal ?_ _) | (with_reducible refine Below.drew ?_) | (with_reducible refine bdn ?_ _))) hb2
      have hs := BB2.size
      have hs1 := BB1.size
      go_wp2_with fail
      go_meet
      first
        | with_reducible exact ⟨_, rfl, rfl, Row5.new _ _ _ _ _ _, hs, bal BB2 _⟩
        | with_reducible exact ⟨_, rfl, rfl, Row5.set5 Z2 _ _ _ _ _, by omega, bsc5 BB2 (by omega) _ _ _ _ _⟩
        | with_reducible exact ⟨_, rfl, rfl, Row5.set5 Z2 _ _ _ _ _, by omega, bsc5 BB2 (by omega) _ _ _ _ _⟩
  case rest =>
    obtain ⟨pO, rfl, rfl, Oq, hpO, hBO⟩ := hcut
    have hb := hBO
    generalize wc = w8 at *
    have BW8 : Below w.heap.size w w8 := btr BW7 hb
    have X8 : Row5 w8 w.heap.size (.bool false) (.int .u64 (lb 0 x)) (.int .u64 (lb 1 x)) (.int .u64 (lb 2 x)) (.int .u64 (lb 3 x)) := Row5.keep hb X7
    have R8 : Row5 w8 (w.heap.size + 1) (.bool false) (.int .u64 0) (.int .u64 0) (.int .u64 0) (.int .u64 0) := Row5.keep hb R7
    have O8 : Row5 w8 pO (.bool h) (.int .u64 y0) (.int .u64 y1) (.int .u64 y2) (.int .u64 y3) := Oq
    clear X7 R7 BW7 hb hBO Oq
    obtain ⟨Oc0, Oc1, Oc2, Oc3, Oc4⟩ := O8.parts
    obtain ⟨Of0, Of1, Of2, Of3, Of4⟩ := O8.free
    go_wp2_with fail
    refine (KO.out _).mono ?_
    rintro e w9 ⟨rfl, hb⟩
    have BW9 : Below w.heap.size w w9 := btr (by repeat (first | (with_reducible exact BW8) | (with_reducible refine bal ?_ _) | (with_reducible refine Below.drew ?_) | (with_reducible refine bdn ?_ _))) hb
    have X9 : Row5 w9 w.heap.size (.bool false) (.int .u64 (lb 0 x)) (.int .u64 (lb 1 x)) (.int .u64 (lb 2 x)) (.int .u64 (lb 3 x)) := Row5.keep hb (by repeat (first | (with_reducible exact X8) | (with_reducible refine Row5.alloc ?_ _) | (with_reducible refine Row5.drew ?_)))
    have R9 : Row5 w9 (w.heap.size + 1) (.bool false) (.int .u64 0) (.int .u64 0) (.int .u64 0) (.int .u64 0) := Row5.keep hb (by repeat (first | (with_reducible exact R8) | (with_reducible refine Row5.alloc ?_ _) | (with_reducible refine Row5.drew ?_)))
    have O9 : Row5 w9 pO (.bool h) (.int .u64 y0) (.int .u64 y1) (.int .u64 y2) (.int .u64 y3) := Row5.keep hb (by repeat (first | (with_reducible exact O8) | (with_reducible refine Row5.alloc ?_ _) | (with_reducible refine Row5.drew ?_)))
    clear X8 R8 O8
    clear BW8
    clear hb
    obtain ⟨Rc0, Rc1, Rc2, Rc3, Rc4⟩ := R9.parts
    obtain ⟨Rf0, Rf1, Rf2, Rf3, Rf4⟩ := R9.free
    have lt_R := R9.lt
    go_wp2
    exact bodyPost_ret (v := .tuple #[.agg #[.bool h, .int .u64 y0, .int .u64 y1, .int .u64 y2, .int .u64 y3], .bool b]) (by simp [results, Tryz.results24, go_sem, Rc0, Rc1, Rc2, Rc3, Rc4]) rfl ⟨rfl, by repeat (first | (with_reducible exact BW9) | (with_reducible refine bal ?_ _) | (with_reducible refine Below.drew ?_) | (with_reducible refine bdn ?_ _) | ((with_reducible refine bsc ?_ ?_ _); rotate_left; (focus (simp only []; omega))))⟩
set_option maxHeartbeats 4000000 in
set_option maxRecDepth 100000 in
theorem rnear_turn_false (x : Nat) (hx : x < 2 ^ 256) (h : Bool) (y0 y1 y2 y3 : Int) (b : Bool) (c : Int) (hc : rcv x 9007199254740993 = c) (hc0 : c < 0) (w : World)
    (k1 : ∀ W, Calls Tryz.prog 30 #[I5 false x] W fun e w' => e = .returned (.bool true) ∧ Below W.heap.size W w')
    (k2 : ∀ W, Calls Tryz.prog 9 #[I5 false x] W fun e w' => e = .returned (.bool true) ∧ Below W.heap.size W w')
    (kw : ∀ s' W, DR W s' 9007199254740993 → Calls Tryz.prog 51 #[.bool true, s'] W fun e w' => e = .returned (.tuple #[.agg #[.bool h, .int .u64 y0, .int .u64 y1, .int .u64 y2, .int .u64 y3], .bool b]) ∧ Below W.heap.size W w') :
    Calls Tryz.prog 24 #[I5 false x, .bool false, .bool false] w fun e w' => e = .returned (.tuple #[.agg #[.bool h, .int .u64 y0, .int .u64 y1, .int .u64 y2, .int .u64 y3], .bool b]) ∧ Below w.heap.size w w' := by
  unfold I5 at *
  have HX := Lib.hid hx; have K1 := Lib.hid k1; have K2 := Lib.hid k2; have KW := Lib.hid kw; clear hx k1 k2 kw
  have HC := Lib.hid hc; clear hc
  have L1 := Lib.hid (digs_eight HX.out); have L2 := Lib.hid (digs_eight (show 1 < 2 ^ 256 by decide)); have L3 := Lib.hid (digs_eight (show 2 ^ 53 < 2 ^ 256 by decide))
  go_enter Tryz.func24, Tryz.ntmps24
  go_wp2_with fail
  refine (K1.out _).mono ?_
  rintro e w1 ⟨rfl, hb⟩
  have BW1 : Below w.heap.size w w1 := btr (by repeat (first | (with_reducible exact Below.refl _ _) | (with_reducible refine bal ?_ _) | (with_reducible refine Below.drew ?_) | (with_reducible refine bdn ?_ _))) hb
  have X1 : Row5 w1 w.heap.size (.bool false) (.int .u64 (lb 0 x)) (.int .u64 (lb 1 x)) (.int .u64 (lb 2 x)) (.int .u64 (lb 3 x)) := Row5.keep hb (by repeat (first | (with_reducible exact Row5.new _ _ _ _ _ _) | ((with_reducible refine Row5.new' _ ?_ _ _ _ _ _); (simp; done)) | (with_reducible refine Row5.alloc ?_ _) | (with_reducible refine Row5.drew ?_)))
  have R1 : Row5 w1 (w.heap.size + 1) (.bool false) (.int .u64 0) (.int .u64 0) (.int .u64 0) (.int .u64 0) := Row5.keep hb (by repeat (first | (with_reducible exact Row5.new _ _ _ _ _ _) | ((with_reducible refine Row5.new' _ ?_ _ _ _ _ _); (simp; done)) | (with_reducible refine Row5.alloc ?_ _) | (with_reducible refine Row5.drew ?_)))
  clear hb
  obtain ⟨Xc0, Xc1, Xc2, Xc3, Xc4⟩ := X1.parts
  obtain ⟨Xf0, Xf1, Xf2, Xf3, Xf4⟩ := X1.free
  go_wp2_with fail
  refine (K2.out _).mono ?_
  rintro e w2 ⟨rfl, hb⟩
  have BW2 : Below w.heap.size w w2 := btr (by repeat (first | (with_reducible exact BW1) | (with_reducible refine bal ?_ _) | (with_reducible refine Below.drew ?_) | (with_reducible refine bdn ?_ _))) hb
  have X2 : Row5 w2 w.heap.size (.bool false) (.int .u64 (lb 0 x)) (.int .u64 (lb 1 x)) (.int .u64 (lb 2 x)) (.int .u64 (lb 3 x)) := Row5.keep hb (by repeat (first | (with_reducible exact X1) | (with_reducible refine Row5.alloc ?_ _) | (with_reducible refine Row5.drew ?_)))
  have R2 : Row5 w2 (w.heap.size + 1) (.bool false) (.int .u64 0) (.int .u64 0) (.int .u64 0) (.int .u64 0) := Row5.keep hb (by repeat (first | (with_reducible exact R1) | (with_reducible refine Row5.alloc ?_ _) | (with_reducible refine Row5.drew ?_)))
  clear X1 R1
  clear BW1
  clear hb
  obtain ⟨Xc0, Xc1, Xc2, Xc3, Xc4⟩ := X2.parts
  obtain ⟨Xf0, Xf1, Xf2, Xf3, Xf4⟩ := X2.free
  go_wp2_with fail
  refine (rof x HX.out _).mono ?_
  rintro e w3 ⟨s1, rfl, hr, hb⟩
  have hbX : Below w2.heap.size w2 w3 := btr (by repeat (first | (with_reducible exact Below.refl _ _) | (with_reducible refine bal ?_ _) | (with_reducible refine Below.drew ?_) | (with_reducible refine bdn ?_ _))) hb
  clear hbX
  have DX3 : DR w3 s1 x := hr
  clear hr
  have BW3 : Below w.heap.size w w3 := btr (by repeat (first | (with_reducible exact BW2) | (with_reducible refine bal ?_ _) | (with_reducible refine Below.drew ?_) | (with_reducible refine bdn ?_ _))) hb
  have X3 : Row5 w3 w.heap.size (.bool false) (.int .u64 (lb 0 x)) (.int .u64 (lb 1 x)) (.int .u64 (lb 2 x)) (.int .u64 (lb 3 x)) := Row5.keep hb (by repeat (first | (with_reducible exact X2) | (with_reducible refine Row5.alloc ?_ _) | (with_reducible refine Row5.drew ?_)))
  have R3 : Row5 w3 (w.heap.size + 1) (.bool false) (.int .u64 0) (.int .u64 0) (.int .u64 0) (.int .u64 0) := Row5.keep hb (by repeat (first | (with_reducible exact R2) | (with_reducible refine Row5.alloc ?_ _) | (with_reducible refine Row5.drew ?_)))
  clear X2 R2
  clear BW2
  clear hb
  obtain ⟨Xc0, Xc1, Xc2, Xc3, Xc4⟩ := X3.parts
  obtain ⟨Xf0, Xf1, Xf2, Xf3, Xf4⟩ := X3.free
  go_wp2_with fail
  refine ((rpow_53 _)).mono ?_
  rintro e w4 ⟨s2, rfl, hr, hb⟩
  have hbX : Below w3.heap.size w3 w4 := btr (by repeat (first | (with_reducible exact Below.refl _ _) | (with_reducible refine bal ?_ _) | (with_reducible refine Below.drew ?_) | (with_reducible refine bdn ?_ _))) hb
  have DX4 : DR w4 s1 x := DR.keep hbX DX3
  clear DX3
  clear hbX
  have DP4 : DR w4 s2 (2 ^ 53) := hr
  clear hr
  have BW4 : Below w.heap.size w w4 := btr (by repeat (first | (with_reducible exact BW3) | (with_reducible refine bal ?_ _) | (with_reducible refine Below.drew ?_) | (with_reducible refine bdn ?_ _))) hb
  have X4 : Row5 w4 w.heap.size (.bool false) (.int .u64 (lb 0 x)) (.int .u64 (lb 1 x)) (.int .u64 (lb 2 x)) (.int .u64 (lb 3 x)) := Row5.keep hb (by repeat (first | (with_reducible exact X3) | (with_reducible refine Row5.alloc ?_ _) | (with_reducible refine Row5.drew ?_)))
  have R4 : Row5 w4 (w.heap.size + 1) (.bool false) (.int .u64 0) (.int .u64 0) (.int .u64 0) (.int .u64 0) := Row5.keep hb (by repeat (first | (with_reducible exact R3) | (with_reducible refine Row5.alloc ?_ _) | (with_reducible refine Row5.drew ?_)))
  clear X3 R3
  clear BW3
  clear hb
  go_wp2_with fail
  refine (radd_least (DR.keep (by repeat (first | (with_reducible exact Below.refl _ _) | (with_reducible refine bal ?_ _) | (with_reducible refine Below.drew ?_) | (with_reducible refine bdn ?_ _))) DP4) (DR.keep (by repeat (first | (with_reducible exact Below.refl _ _) | (with_reducible refine bal ?_ _) | (with_reducible refine Below.drew ?_) | (with_reducible refine bdn ?_ _))) (ten_new w4 1 (by decide) (by decide) 1 rfl)) L3.out L2.out).mono ?_
  rintro e w5 ⟨s3, rfl, hr, hb⟩
  have hbX : Below w4.heap.size w4 w5 := btr (by repeat (first | (with_reducible exact Below.refl _ _) | (with_reducible refine bal ?_ _) | (with_reducible refine Below.drew ?_) | (with_reducible refine bdn ?_ _))) hb
  have DX5 : DR w5 s1 x := DR.keep hbX DX4
  have DP5 : DR w5 s2 (2 ^ 53) := DR.keep hbX DP4
  clear DX4 DP4
  clear hbX
  have DL5 : DR w5 s3 9007199254740993 := hr
  clear hr
  have BW5 : Below w.heap.size w w5 := btr (by repeat (first | (with_reducible exact BW4) | (with_reducible refine bal ?_ _) | (with_reducible refine Below.drew ?_) | (with_reducible refine bdn ?_ _))) hb
  have X5 : Row5 w5 w.heap.size (.bool false) (.int .u64 (lb 0 x)) (.int .u64 (lb 1 x)) (.int .u64 (lb 2 x)) (.int .u64 (lb 3 x)) := Row5.keep hb (by repeat (first | (with_reducible exact X4) | (with_reducible refine Row5.alloc ?_ _) | (with_reducible refine Row5.drew ?_)))
  have R5 : Row5 w5 (w.heap.size + 1) (.bool false) (.int .u64 0) (.int .u64 0) (.int .u64 0) (.int .u64 0) := Row5.keep hb (by repeat (first | (with_reducible exact R4) | (with_reducible refine Row5.alloc ?_ _) | (with_reducible refine Row5.drew ?_)))
  clear X4 R4
  clear BW4
  clear hb
  go_wp2_with fail
  refine (rcmp_is HC.out L1.out (DR.keep (by repeat (first | (with_reducible exact Below.refl _ _) | (with_reducible refine bal ?_ _) | (with_reducible refine Below.drew ?_) | (with_reducible refine bdn ?_ _))) DX5) (DR.keep (by repeat (first | (with_reducible exact Below.refl _ _) | (with_reducible refine bal ?_ _) | (with_reducible refine Below.drew ?_) | (with_reducible refine bdn ?_ _))) DL5)).mono ?_
  rintro e w6 ⟨rfl, hb⟩
  have hbX : Below w5.heap.size w5 w6 := btr (by repeat (first | (with_reducible exact Below.refl _ _) | (with_reducible refine bal ?_ _) | (with_reducible refine Below.drew ?_) | (with_reducible refine bdn ?_ _))) hb
  have DX6 : DR w6 s1 x := DR.keep hbX DX5
  have DP6 : DR w6 s2 (2 ^ 53) := DR.keep hbX DP5
  have DL6 : DR w6 s3 9007199254740993 := DR.keep hbX DL5
  clear DX5 DP5 DL5
  clear hbX
  have BW6 : Below w.heap.size w w6 := btr (by repeat (first | (with_reducible exact BW5) | (with_reducible refine bal ?_ _) | (with_reducible refine Below.drew ?_) | (with_reducible refine bdn ?_ _))) hb
  have X6 : Row5 w6 w.heap.size (.bool false) (.int .u64 (lb 0 x)) (.int .u64 (lb 1 x)) (.int .u64 (lb 2 x)) (.int .u64 (lb 3 x)) := Row5.keep hb (by repeat (first | (with_reducible exact X5) | (with_reducible refine Row5.alloc ?_ _) | (with_reducible refine Row5.drew ?_)))
  have R6 : Row5 w6 (w.heap.size + 1) (.bool false) (.int .u64 0) (.int .u64 0) (.int .u64 0) (.int .u64 0) := Row5.keep hb (by repeat (first | (with_reducible exact R5) | (with_reducible refine Row5.alloc ?_ _) | (with_reducible refine Row5.drew ?_)))
  clear X5 R5
  clear BW5
  clear hb
  obtain ⟨Xc0, Xc1, Xc2, Xc3, Xc4⟩ := X6.parts
  obtain ⟨Xf0, Xf1, Xf2, Xf3, Xf4⟩ := X6.free
  go_wp2_with fail
  refine (KW.out _ _ (DR.keep (by repeat (first | (with_reducible exact Below.refl _ _) | (with_reducible refine bal ?_ _) | (with_reducible refine Below.drew ?_) | (with_reducible refine bdn ?_ _))) DL6)).mono ?_
  rintro e w7 ⟨rfl, hb⟩
  have hbX : Below w6.heap.size w6 w7 := btr (by repeat (first | (with_reducible exact Below.refl _ _) | (with_reducible refine bal ?_ _) | (with_reducible refine Below.drew ?_) | (with_reducible refine bdn ?_ _))) hb
  have DX7 : DR w7 s1 x := DR.keep hbX DX6
  have DP7 : DR w7 s2 (2 ^ 53) := DR.keep hbX DP6
  have DL7 : DR w7 s3 9007199254740993 := DR.keep hbX DL6
  clear DX6 DP6 DL6
  clear hbX
  have BW7 : Below w.heap.size w w7 := btr (by repeat (first | (with_reducible exact BW6) | (with_reducible refine bal ?_ _) | (with_reducible refine Below.drew ?_) | (with_reducible refine bdn ?_ _))) hb
  have X7 : Row5 w7 w.heap.size (.bool false) (.int .u64 (lb 0 x)) (.int .u64 (lb 1 x)) (.int .u64 (lb 2 x)) (.int .u64 (lb 3 x)) := Row5.keep hb (by repeat (first | (with_reducible exact X6) | (with_reducible refine Row5.alloc ?_ _) | (with_reducible refine Row5.drew ?_)))
  have R7 : Row5 w7 (w.heap.size + 1) (.bool false) (.int .u64 0) (.int .u64 0) (.int .u64 0) (.int .u64 0) := Row5.keep hb (by repeat (first | (with_reducible exact R6) | (with_reducible refine Row5.alloc ?_ _) | (with_reducible refine Row5.drew ?_)))
  clear X6 R6
  clear BW6
  clear hb
  obtain ⟨Rc0, Rc1, Rc2, Rc3, Rc4⟩ := R7.parts
  obtain ⟨Rf0, Rf1, Rf2, Rf3, Rf4⟩ := R7.free
  have lt_R := R7.lt
  go_wp2
  exact bodyPost_ret (v := .tuple #[.agg #[.bool h, .int .u64 y0, .int .u64 y1, .int .u64 y2, .int .u64 y3], .bool b]) (by simp [results, Tryz.results24, go_sem, Rc0, Rc1, Rc2, Rc3, Rc4]) rfl ⟨rfl, by repeat (first | (with_reducible exact BW7) | (with_reducible refine bal ?_ _) | (with_reducible refine Below.drew ?_) | (with_reducible refine bdn ?_ _) | ((with_reducible refine bsc ?_ ?_ _); rotate_left; (focus (simp only []; omega))))⟩
set_option maxHeartbeats 4000000 in
set_option maxRecDepth 100000 in
theorem rnear_less_false (x : Nat) (hx : x < 2 ^ 256) (h : Bool) (y0 y1 y2 y3 : Int) (b : Bool) (c : Int) (hc : rcv x 9007199254740993 = c) (hc0 : 0 ≤ c) (hle : 1 ≤ x) (w : World)
    (k1 : ∀ W, Calls Tryz.prog 30 #[I5 false x] W fun e w' => e = .returned (.bool true) ∧ Below W.heap.size W w')
    (k2 : ∀ W, Calls Tryz.prog 9 #[I5 false x] W fun e w' => e = .returned (.bool true) ∧ Below W.heap.size W w')
    (kw : ∀ s' W, DR W s' (x - 1) → Calls Tryz.prog 51 #[.bool false, s'] W fun e w' => e = .returned (.tuple #[.agg #[.bool h, .int .u64 y0, .int .u64 y1, .int .u64 y2, .int .u64 y3], .bool b]) ∧ Below W.heap.size W w')
    (ko : ∀ W, Calls Tryz.prog 53 #[.agg #[.bool h, .int .u64 y0, .int .u64 y1, .int .u64 y2, .int .u64 y3], .bool b, .bool false] W fun e w' => e = .returned (.tuple #[.agg #[.bool h, .int .u64 y0, .int .u64 y1, .int .u64 y2, .int .u64 y3], .bool b]) ∧ Below W.heap.size W w') :
    Calls Tryz.prog 24 #[I5 false x, .bool false, .bool false] w fun e w' => e = .returned (.tuple #[.agg #[.bool h, .int .u64 y0, .int .u64 y1, .int .u64 y2, .int .u64 y3], .bool b]) ∧ Below w.heap.size w w' := by
  unfold I5 at *
  have HX := Lib.hid hx; have K1 := Lib.hid k1; have K2 := Lib.hid k2; have KW := Lib.hid kw; have KO := Lib.hid ko; clear hx k1 k2 kw ko
  have HC := Lib.hid hc; clear hc
  have L1 := Lib.hid (digs_eight HX.out); have L2 := Lib.hid (digs_eight (show 1 < 2 ^ 256 by decide)); have L3 := Lib.hid (digs_eight (show 2 ^ 53 < 2 ^ 256 by decide))
  go_enter Tryz.func24, Tryz.ntmps24
  go_wp2_with fail
  refine (K1.out _).mono ?_
  rintro e w1 ⟨rfl, hb⟩
  have BW1 : Below w.heap.size w w1 := btr (by repeat (first | (with_reducible exact Below.refl _ _) | (with_reducible refine bal ?_ _) | (with_reducible refine Below.drew ?_) | (with_reducible refine bdn ?_ _))) hb
  have X1 : Row5 w1 w.heap.size (.bool false) (.int .u64 (lb 0 x)) (.int .u64 (lb 1 x)) (.int .u64 (lb 2 x)) (.int .u64 (lb 3 x)) := Row5.keep hb (by repeat (first | (with_reducible exact Row5.new _ _ _ _ _ _) | ((with_reducible refine Row5.new' _ ?_ _ _ _ _ _); (simp; done)) | (with_reducible refine Row5.alloc ?_ _) | (with_reducible refine Row5.drew ?_)))
  have R1 : Row5 w1 (w.heap.size + 1) (.bool false) (.int .u64 0) (.int .u64 0) (.int .u64 0) (.int .u64 0) := Row5.keep hb (by repeat (first | (with_reducible exact Row5.new _ _ _ _ _ _) | ((with_reducible refine Row5.new' _ ?_ _ _ _ _ _); (simp; done)) | (with_reducible refine Row5.alloc ?_ _) | (with_reducible refine Row5.drew ?_)))
  clear hb
  obtain ⟨Xc0, Xc1, Xc2, Xc3, Xc4⟩ := X1.parts
  obtain ⟨Xf0, Xf1, Xf2, Xf3, Xf4⟩ := X1.free
  go_wp2_with fail
  refine (K2.out _).mono ?_
  rintro e w2 ⟨rfl, hb⟩
  have BW2 : Below w.heap.size w w2 := btr (by repeat (first | (with_reducible exact BW1) | (with_reducible refine bal ?_ _) | (with_reducible refine Below.drew ?_) | (with_reducible refine bdn ?_ _))) hb
  have X2 : Row5 w2 w.heap.size (.bool false) (.int .u64 (lb 0 x)) (.int .u64 (lb 1 x)) (.int .u64 (lb 2 x)) (.int .u64 (lb 3 x)) := Row5.keep hb (by repeat (first | (with_reducible exact X1) | (with_reducible refine Row5.alloc ?_ _) | (with_reducible refine Row5.drew ?_)))
  have R2 : Row5 w2 (w.heap.size + 1) (.bool false) (.int .u64 0) (.int .u64 0) (.int .u64 0) (.int .u64 0) := Row5.keep hb (by repeat (first | (with_reducible exact R1) | (with_reducible refine Row5.alloc ?_ _) | (with_reducible refine Row5.drew ?_)))
  clear X1 R1
  clear BW1
  clear hb
  obtain ⟨Xc0, Xc1, Xc2, Xc3, Xc4⟩ := X2.parts
  obtain ⟨Xf0, Xf1, Xf2, Xf3, Xf4⟩ := X2.free
  go_wp2_with fail
  refine (rof x HX.out _).mono ?_
  rintro e w3 ⟨s1, rfl, hr, hb⟩
  have hbX : Below w2.heap.size w2 w3 := btr (by repeat (first | (with_reducible exact Below.refl _ _) | (with_reducible refine bal ?_ _) | (with_reducible refine Below.drew ?_) | (with_reducible refine bdn ?_ _))) hb
  clear hbX
  have DX3 : DR w3 s1 x := hr
  clear hr
  have BW3 : Below w.heap.size w w3 := btr (by repeat (first | (with_reducible exact BW2) | (with_reducible refine bal ?_ _) | (with_reducible refine Below.drew ?_) | (with_reducible refine bdn ?_ _))) hb
  have X3 : Row5 w3 w.heap.size (.bool false) (.int .u64 (lb 0 x)) (.int .u64 (lb 1 x)) (.int .u64 (lb 2 x)) (.int .u64 (lb 3 x)) := Row5.keep hb (by repeat (first | (with_reducible exact X2) | (with_reducible refine Row5.alloc ?_ _) | (with_reducible refine Row5.drew ?_)))
  have R3 : Row5 w3 (w.heap.size + 1) (.bool false) (.int .u64 0) (.int .u64 0) (.int .u64 0) (.int .u64 0) := Row5.keep hb (by repeat (first | (with_reducible exact R2) | (with_reducible refine Row5.alloc ?_ _) | (with_reducible refine Row5.drew ?_)))
  clear X2 R2
  clear BW2
  clear hb
  obtain ⟨Xc0, Xc1, Xc2, Xc3, Xc4⟩ := X3.parts
  obtain ⟨Xf0, Xf1, Xf2, Xf3, Xf4⟩ := X3.free
  go_wp2_with fail
  refine ((rpow_53 _)).mono ?_
  rintro e w4 ⟨s2, rfl, hr, hb⟩
  have hbX : Below w3.heap.size w3 w4 := btr (by repeat (first | (with_reducible exact Below.refl _ _) | (with_reducible refine bal ?_ _) | (with_reducible refine Below.drew ?_) | (with_reducible refine bdn ?_ _))) hb
  have DX4 : DR w4 s1 x := DR.keep hbX DX3
  clear DX3
  clear hbX
  have DP4 : DR w4 s2 (2 ^ 53) := hr
  clear hr
  have BW4 : Below w.heap.size w w4 := btr (by repeat (first | (with_reducible exact BW3) | (with_reducible refine bal ?_ _) | (with_reducible refine Below.drew ?_) | (with_reducible refine bdn ?_ _))) hb
  have X4 : Row5 w4 w.heap.size (.bool false) (.int .u64 (lb 0 x)) (.int .u64 (lb 1 x)) (.int .u64 (lb 2 x)) (.int .u64 (lb 3 x)) := Row5.keep hb (by repeat (first | (with_reducible exact X3) | (with_reducible refine Row5.alloc ?_ _) | (with_reducible refine Row5.drew ?_)))
  have R4 : Row5 w4 (w.heap.size + 1) (.bool false) (.int .u64 0) (.int .u64 0) (.int .u64 0) (.int .u64 0) := Row5.keep hb (by repeat (first | (with_reducible exact R3) | (with_reducible refine Row5.alloc ?_ _) | (with_reducible refine Row5.drew ?_)))
  clear X3 R3
  clear BW3
  clear hb
  go_wp2_with fail
  refine (radd_least (DR.keep (by repeat (first | (with_reducible exact Below.refl _ _) | (with_reducible refine bal ?_ _) | (with_reducible refine Below.drew ?_) | (with_reducible refine bdn ?_ _))) DP4) (DR.keep (by repeat (first | (with_reducible exact Below.refl _ _) | (with_reducible refine bal ?_ _) | (with_reducible refine Below.drew ?_) | (with_reducible refine bdn ?_ _))) (ten_new w4 1 (by decide) (by decide) 1 rfl)) L3.out L2.out).mono ?_
  rintro e w5 ⟨s3, rfl, hr, hb⟩
  have hbX : Below w4.heap.size w4 w5 := btr (by repeat (first | (with_reducible exact Below.refl _ _) | (with_reducible refine bal ?_ _) | (with_reducible refine Below.drew ?_) | (with_reducible refine bdn ?_ _))) hb
  have DX5 : DR w5 s1 x := DR.keep hbX DX4
  have DP5 : DR w5 s2 (2 ^ 53) := DR.keep hbX DP4
  clear DX4 DP4
  clear hbX
  have DL5 : DR w5 s3 9007199254740993 := hr
  clear hr
  have BW5 : Below w.heap.size w w5 := btr (by repeat (first | (with_reducible exact BW4) | (with_reducible refine bal ?_ _) | (with_reducible refine Below.drew ?_) | (with_reducible refine bdn ?_ _))) hb
  have X5 : Row5 w5 w.heap.size (.bool false) (.int .u64 (lb 0 x)) (.int .u64 (lb 1 x)) (.int .u64 (lb 2 x)) (.int .u64 (lb 3 x)) := Row5.keep hb (by repeat (first | (with_reducible exact X4) | (with_reducible refine Row5.alloc ?_ _) | (with_reducible refine Row5.drew ?_)))
  have R5 : Row5 w5 (w.heap.size + 1) (.bool false) (.int .u64 0) (.int .u64 0) (.int .u64 0) (.int .u64 0) := Row5.keep hb (by repeat (first | (with_reducible exact R4) | (with_reducible refine Row5.alloc ?_ _) | (with_reducible refine Row5.drew ?_)))
  clear X4 R4
  clear BW4
  clear hb
  go_wp2_with fail
  refine (rcmp_is HC.out L1.out (DR.keep (by repeat (first | (with_reducible exact Below.refl _ _) | (with_reducible refine bal ?_ _) | (with_reducible refine Below.drew ?_) | (with_reducible refine bdn ?_ _))) DX5) (DR.keep (by repeat (first | (with_reducible exact Below.refl _ _) | (with_reducible refine bal ?_ _) | (with_reducible refine Below.drew ?_) | (with_reducible refine bdn ?_ _))) DL5)).mono ?_
  rintro e w6 ⟨rfl, hb⟩
  have hbX : Below w5.heap.size w5 w6 := btr (by repeat (first | (with_reducible exact Below.refl _ _) | (with_reducible refine bal ?_ _) | (with_reducible refine Below.drew ?_) | (with_reducible refine bdn ?_ _))) hb
  have DX6 : DR w6 s1 x := DR.keep hbX DX5
  have DP6 : DR w6 s2 (2 ^ 53) := DR.keep hbX DP5
  have DL6 : DR w6 s3 9007199254740993 := DR.keep hbX DL5
  clear DX5 DP5 DL5
  clear hbX
  have BW6 : Below w.heap.size w w6 := btr (by repeat (first | (with_reducible exact BW5) | (with_reducible refine bal ?_ _) | (with_reducible refine Below.drew ?_) | (with_reducible refine bdn ?_ _))) hb
  have X6 : Row5 w6 w.heap.size (.bool false) (.int .u64 (lb 0 x)) (.int .u64 (lb 1 x)) (.int .u64 (lb 2 x)) (.int .u64 (lb 3 x)) := Row5.keep hb (by repeat (first | (with_reducible exact X5) | (with_reducible refine Row5.alloc ?_ _) | (with_reducible refine Row5.drew ?_)))
  have R6 : Row5 w6 (w.heap.size + 1) (.bool false) (.int .u64 0) (.int .u64 0) (.int .u64 0) (.int .u64 0) := Row5.keep hb (by repeat (first | (with_reducible exact R5) | (with_reducible refine Row5.alloc ?_ _) | (with_reducible refine Row5.drew ?_)))
  clear X5 R5
  clear BW5
  clear hb
  obtain ⟨Xc0, Xc1, Xc2, Xc3, Xc4⟩ := X6.parts
  obtain ⟨Xf0, Xf1, Xf2, Xf3, Xf4⟩ := X6.free
  go_upto_region 21 with (fail)
  go_name_world w7 hw7
  have BW7 : Below w.heap.size w w7 := by rw [← hw7]; repeat (first | (with_reducible exact BW6) | (with_reducible refine bal ?_ _) | (with_reducible refine Below.drew ?_) | (with_reducible refine bdn ?_ _))
  have hbX : Below w6.heap.size w6 w7 := by rw [← hw7]; repeat (first | (with_reducible exact Below.refl _ _) | (with_reducible refine bal ?_ _) | (with_reducible refine Below.drew ?_) | (with_reducible refine bdn ?_ _))
  have DX7 : DR w7 s1 x := DR.keep hbX DX6
  have DP7 : DR w7 s2 (2 ^ 53) := DR.keep hbX DP6
  have DL7 : DR w7 s3 9007199254740993 := DR.keep hbX DL6
  clear hbX DX6 DP6 DL6
  have X7 : Row5 w7 w.heap.size (.bool false) (.int .u64 (lb 0 x)) (.int .u64 (lb 1 x)) (.int .u64 (lb 2 x)) (.int .u64 (lb 3 x)) := by rw [← hw7]; exact (by repeat (first | (with_reducible exact X6) | (with_reducible refine Row5.alloc ?_ _) | (with_reducible refine Row5.drew ?_)))
  have R7 : Row5 w7 (w.heap.size + 1) (.bool false) (.int .u64 0) (.int .u64 0) (.int .u64 0) (.int .u64 0) := by rw [← hw7]; exact (by repeat (first | (with_reducible exact R6) | (with_reducible refine Row5.alloc ?_ _) | (with_reducible refine Row5.drew ?_)))
  clear X6 R6
  clear BW6
  clear hw7
  have lt_X := X7.lt
  have lt_R := R7.lt
  go_cut [15, 16] (fun s15 s16 wx => ∃ p : Nat, s15 = .pointer (some ⟨p, 0, none⟩) ∧ s16 = .bool b ∧ Row5 wx p (.bool h) (.int .u64 y0) (.int .u64 y1) (.int .u64 y2) (.int .u64 y3) ∧ w7.heap.size ≤ p ∧ Below w7.heap.size w7 wx)
  case first =>
    go_region_held3 (fun w' => w'.cell? ⟨w.heap.size, 0, none⟩ = some (.bool false) ∧ w'.cell? ⟨w.heap.size, 1, none⟩ = some (.int .u64 (lb 0 x)) ∧ w'.cell? ⟨w.heap.size, 2, none⟩ = some (.int .u64 (lb 1 x)) ∧ w'.cell? ⟨w.heap.size, 3, none⟩ = some (.int .u64 (lb 2 x)) ∧ w'.cell? ⟨w.heap.size, 4, none⟩ = some (.int .u64 (lb 3 x)))
      ((refine Row5.parts ?_; (repeat (first | (with_reducible assumption) | (with_reducible refine Row5.alloc ?_ _) | (with_reducible refine Row5.drew ?_) | ((with_reducible refine Row5.set ?_ ?_ _); rotate_left; (focus (omega))))); done))
      (first | (go_at_call 54; (with_reducible refine (rsub (DR.keep (by repeat (first | (with_reducible exact Below.refl _ _) | (with_reducible refine bal ?_ _) | (with_reducible refine Below.drew ?_) | (with_reducible refine bdn ?_ _))) DX7) (DR.keep (by repeat (first | (with_reducible exact Below.refl _ _) | (with_reducible refine bal ?_ _) | (with_reducible refine Below.drew ?_) | (with_reducible refine bdn ?_ _))) (ten_at _ _ 1 1 (by first | rfl | (simp; done)) (by decide) (by decide) rfl)) L1.out hle).mono ?_); rintro e wf1 ⟨sa, rfl, hra, hb1⟩; have Xf1 : Row5 wf1 w.heap.size (.bool false) (.int .u64 (lb 0 x)) (.int .u64 (lb 1 x)) (.int .u64 (lb 2 x)) (.int .u64 (lb 3 x)) := Row5.keep hb1 (by repeat (first | (with_reducible assumption) | (with_reducible refine Row5.alloc ?_ _) | (with_reducible refine Row5.drew ?_))); have ltXf1 := Xf1.lt; (first | (refine absorb (P := Row5 wf1 w7.heap.size (.bool false) (.int .u64 0) (.int .u64 0) (.int .u64 0) (.int .u64 0)) (Row5.keep hb1 ?_) (fun Z1 => ?_); (focus ((repeat (first | ((with_reducible refine Row5.new' _ ?_ _ _ _ _ _); (simp; done)) | (with_reducible refine Row5.alloc ?_ _) | (with_reducible refine Row5.drew ?_))); done))) | (refine absorb (P := Row5 wf1 (w7.heap.size + 1) (.bool false) (.int .u64 0) (.int .u64 0) (.int .u64 0) (.int .u64 0)) (Row5.keep hb1 ?_) (fun Z1 => ?_); (focus ((repeat (first | ((with_reducible refine Row5.new' _ ?_ _ _ _ _ _); (simp; done)) | (with_reducible refine Row5.alloc ?_ _) | (with_reducible refine Row5.drew ?_))); done))) | skip); (first | (obtain ⟨zc0, zc1, zc2, zc3, zc4⟩ := Z1.parts; obtain ⟨zf0, zf1, zf2, zf3, zf4⟩ := Z1.free) | skip)) | (go_at_call 51; (with_reducible refine (KW.out _ _ (DR.keep (by repeat (first | (with_reducible exact Below.refl _ _) | (with_reducible refine bal ?_ _) | (with_reducible refine Below.drew ?_) | (with_reducible refine bdn ?_ _))) hra)).mono ?_); rintro e wf2 ⟨rfl, hb2⟩; have Xf2 : Row5 wf2 w.heap.size (.bool false) (.int .u64 (lb 0 x)) (.int .u64 (lb 1 x)) (.int .u64 (lb 2 x)) (.int .u64 (lb 3 x)) := Row5.keep hb2 (by repeat (first | (with_reducible assumption) | (with_reducible refine Row5.alloc ?_ _) | (with_reducible refine Row5.drew ?_))); have ltXf2 := Xf2.lt; (first | (refine absorb (P := Row5 wf2 w7.heap.size (.bool false) (.int .u64 0) (.int .u64 0) (.int .u64 0) (.int .u64 0)) (Row5.keep hb2 ?_) (fun Z2 => ?_); (focus ((repeat (first | (with_reducible exact Z1) | (with_reducible refine Row5.alloc ?_ _) | (with_reducible refine Row5.drew ?_))); done))) | (refine absorb (P := Row5 wf2 (w7.heap.size + 1) (.bool false) (.int .u64 0) (.int .u64 0) (.int .u64 0) (.int .u64 0)) (Row5.keep hb2 ?_) (fun Z2 => ?_); (focus ((repeat (first | (with_reducible exact Z1) | (with_reducible refine Row5.alloc ?_ _) | (with_reducible refine Row5.drew ?_))); done))) | (refine absorb (P := Row5 wf2 wf1.heap.size (.bool false) (.int .u64 0) (.int .u64 0) (.int .u64 0) (.int .u64 0)) (Row5.keep hb2 ?_) (fun Z2 => ?_); (focus ((repeat (first | ((with_reducible refine Row5.new' _ ?_ _ _ _ _ _); (simp; done)) | (with_reducible refine Row5.alloc ?_ _) | (with_reducible refine Row5.drew ?_))); done))) | skip); (first | (obtain ⟨zc0, zc1, zc2, zc3, zc4⟩ := Z2.parts; obtain ⟨zf0, zf1, zf2, zf3, zf4⟩ := Z2.free) | skip)))
    all_goals
      have BB1 : Below w7.heap.size w7 wf1 := btr (by repeat (first | (with_reducible exact Below.refl _ _) | (with_reducible refine bal ?_ _) | (with_reducible refine Below.drew ?_) | (with_reducible refine bdn ?_ _))) hb1
      have BB2 : Below w7.heap.size w7 wf2 := btr (by repeat (first | (with_reducible exact BB1) | (with_reducible refine bal ?_ _) | (with_reducible refine Below.drew ?_) | (with_reducible refine bdn ?_ _))) hb2
      have hs := BB2.size
      have hs1 := BB1.size
      go_wp2_with fail
      go_meet
      first
        | with_reducible exact ⟨_, rfl, rfl, Row5.new _ _ _ _ _ _, hs, bal BB2 _⟩
        | with_reducible exact ⟨_, rfl, rfl, Row5.set5 Z2 _ _ _ _ _, by omega, bsc5 BB2 (by omega) _ _ _ _ _⟩
        | with_reducible exact ⟨_, rfl, rfl, Row5.set5 Z2 _ _ _ _ _, by omega, bsc5 BB2 (by omega) _ _ _ _ _⟩
  case rest =>
    obtain ⟨pO, rfl, rfl, Oq, hpO, hBO⟩ := hcut
    have hb := hBO
    generalize wc = w8 at *
    have BW8 : Below w.heap.size w w8 := btr BW7 hb
    have X8 : Row5 w8 w.heap.size (.bool false) (.int .u64 (lb 0 x)) (.int .u64 (lb 1 x)) (.int .u64 (lb 2 x)) (.int .u64 (lb 3 x)) := Row5.keep hb X7
    have R8 : Row5 w8 (w.heap.size + 1) (.bool false) (.int .u64 0) (.int .u64 0) (.int .u64 0) (.int .u64 0) := Row5.keep hb R7
    have O8 : Row5 w8 pO (.bool h) (.int .u64 y0) (.int .u64 y1) (.int .u64 y2) (.int .u64 y3) := Oq
    clear X7 R7 BW7 hb hBO Oq
    obtain ⟨Oc0, Oc1, Oc2, Oc3, Oc4⟩ := O8.parts
    obtain ⟨Of0, Of1, Of2, Of3, Of4⟩ := O8.free
    go_wp2_with fail
    refine (KO.out _).mono ?_
    rintro e w9 ⟨rfl, hb⟩
    have BW9 : Below w.heap.size w w9 := btr (by repeat (first | (with_reducible exact BW8) | (with_reducible refine bal ?_ _) | (with_reducible refine Below.drew ?_) | (with_reducible refine bdn ?_ _))) hb
    have X9 : Row5 w9 w.heap.size (.bool false) (.int .u64 (lb 0 x)) (.int .u64 (lb 1 x)) (.int .u64 (lb 2 x)) (.int .u64 (lb 3 x)) := Row5.keep hb (by repeat (first | (with_reducible exact X8) | (with_reducible refine Row5.alloc ?_ _) | (with_reducible refine Row5.drew ?_)))
    have R9 : Row5 w9 (w.heap.size + 1) (.bool false) (.int .u64 0) (.int .u64 0) (.int .u64 0) (.int .u64 0) := Row5.keep hb (by repeat (first | (with_reducible exact R8) | (with_reducible refine Row5.alloc ?_ _) | (with_reducible refine Row5.drew ?_)))
    have O9 : Row5 w9 pO (.bool h) (.int .u64 y0) (.int .u64 y1) (.int .u64 y2) (.int .u64 y3) := Row5.keep hb (by repeat (first | (with_reducible exact O8) | (with_reducible refine Row5.alloc ?_ _) | (with_reducible refine Row5.drew ?_)))
    clear X8 R8 O8
    clear BW8
    clear hb
    obtain ⟨Rc0, Rc1, Rc2, Rc3, Rc4⟩ := R9.parts
    obtain ⟨Rf0, Rf1, Rf2, Rf3, Rf4⟩ := R9.free
    have lt_R := R9.lt
    go_wp2
    exact bodyPost_ret (v := .tuple #[.agg #[.bool h, .int .u64 y0, .int .u64 y1, .int .u64 y2, .int .u64 y3], .bool b]) (by simp [results, Tryz.results24, go_sem, Rc0, Rc1, Rc2, Rc3, Rc4]) rfl ⟨rfl, by repeat (first | (with_reducible exact BW9) | (with_reducible refine bal ?_ _) | (with_reducible refine Below.drew ?_) | (with_reducible refine bdn ?_ _) | ((with_reducible refine bsc ?_ ?_ _); rotate_left; (focus (simp only []; omega))))⟩
set_option maxHeartbeats 4000000 in
set_option maxRecDepth 100000 in
theorem rnear_same_true_false (up : Bool) (x : Nat) (hx : x < 2 ^ 256) (w : World)
    (k1 : ∀ W, Calls Tryz.prog 30 #[I5 true x] W fun e w' => e = .returned (.bool true) ∧ Below W.heap.size W w')
    (k2 : ∀ W, Calls Tryz.prog 9 #[I5 true x] W fun e w' => e = .returned (.bool false) ∧ Below W.heap.size W w') :
    Calls Tryz.prog 24 #[I5 true x, .bool up, .bool false] w fun e w' => e = .returned (.tuple #[I5 true x, .bool true]) ∧ Below w.heap.size w w' := by
  unfold I5 at *
  have HX := Lib.hid hx; have K1 := Lib.hid k1; have K2 := Lib.hid k2; clear hx k1 k2
  have L1 := Lib.hid (digs_eight HX.out); have L2 := Lib.hid (digs_eight (show 1 < 2 ^ 256 by decide)); have L3 := Lib.hid (digs_eight (show 2 ^ 53 < 2 ^ 256 by decide))
  go_enter Tryz.func24, Tryz.ntmps24
  go_wp2_with fail
  refine (K1.out _).mono ?_
  rintro e w1 ⟨rfl, hb⟩
  have BW1 : Below w.heap.size w w1 := btr (by repeat (first | (with_reducible exact Below.refl _ _) | (with_reducible refine bal ?_ _) | (with_reducible refine Below.drew ?_) | (with_reducible refine bdn ?_ _))) hb
  have X1 : Row5 w1 w.heap.size (.bool true) (.int .u64 (lb 0 x)) (.int .u64 (lb 1 x)) (.int .u64 (lb 2 x)) (.int .u64 (lb 3 x)) := Row5.keep hb (by repeat (first | (with_reducible exact Row5.new _ _ _ _ _ _) | ((with_reducible refine Row5.new' _ ?_ _ _ _ _ _); (simp; done)) | (with_reducible refine Row5.alloc ?_ _) | (with_reducible refine Row5.drew ?_)))
  have R1 : Row5 w1 (w.heap.size + 1) (.bool false) (.int .u64 0) (.int .u64 0) (.int .u64 0) (.int .u64 0) := Row5.keep hb (by repeat (first | (with_reducible exact Row5.new _ _ _ _ _ _) | ((with_reducible refine Row5.new' _ ?_ _ _ _ _ _); (simp; done)) | (with_reducible refine Row5.alloc ?_ _) | (with_reducible refine Row5.drew ?_)))
  clear hb
  obtain ⟨Xc0, Xc1, Xc2, Xc3, Xc4⟩ := X1.parts
  obtain ⟨Xf0, Xf1, Xf2, Xf3, Xf4⟩ := X1.free
  go_wp2_with fail
  refine (K2.out _).mono ?_
  rintro e w2 ⟨rfl, hb⟩
  have BW2 : Below w.heap.size w w2 := btr (by repeat (first | (with_reducible exact BW1) | (with_reducible refine bal ?_ _) | (with_reducible refine Below.drew ?_) | (with_reducible refine bdn ?_ _))) hb
  have X2 : Row5 w2 w.heap.size (.bool true) (.int .u64 (lb 0 x)) (.int .u64 (lb 1 x)) (.int .u64 (lb 2 x)) (.int .u64 (lb 3 x)) := Row5.keep hb (by repeat (first | (with_reducible exact X1) | (with_reducible refine Row5.alloc ?_ _) | (with_reducible refine Row5.drew ?_)))
  have R2 : Row5 w2 (w.heap.size + 1) (.bool false) (.int .u64 0) (.int .u64 0) (.int .u64 0) (.int .u64 0) := Row5.keep hb (by repeat (first | (with_reducible exact R1) | (with_reducible refine Row5.alloc ?_ _) | (with_reducible refine Row5.drew ?_)))
  clear X1 R1
  clear BW1
  clear hb
  obtain ⟨Xc0, Xc1, Xc2, Xc3, Xc4⟩ := X2.parts
  obtain ⟨Xf0, Xf1, Xf2, Xf3, Xf4⟩ := X2.free
  have nrx : ¬ w.heap.size + 1 = w.heap.size := by omega
  obtain ⟨Rc0, Rc1, Rc2, Rc3, Rc4⟩ := R2.parts
  obtain ⟨Rf0, Rf1, Rf2, Rf3, Rf4⟩ := R2.free
  have lt_R := R2.lt
  go_wp2
  exact bodyPost_ret (v := .tuple #[.agg #[.bool true, .int .u64 (lb 0 x), .int .u64 (lb 1 x), .int .u64 (lb 2 x), .int .u64 (lb 3 x)], .bool true]) (by simp [results, Tryz.results24, go_sem, Rc0, Rc1, Rc2, Rc3, Rc4]) rfl ⟨rfl, by repeat (first | (with_reducible exact BW2) | (with_reducible refine bal ?_ _) | (with_reducible refine Below.drew ?_) | (with_reducible refine bdn ?_ _) | ((with_reducible refine bsc ?_ ?_ _); rotate_left; (focus (simp only []; omega))))⟩
set_option maxHeartbeats 4000000 in
set_option maxRecDepth 100000 in
theorem rnear_same_true_true (up : Bool) (x : Nat) (hx : x < 2 ^ 256) (w : World)
    (k1 : ∀ W, Calls Tryz.prog 30 #[I5 true x] W fun e w' => e = .returned (.bool true) ∧ Below W.heap.size W w')
    (k2 : ∀ W, Calls Tryz.prog 9 #[I5 true x] W fun e w' => e = .returned (.bool true) ∧ Below W.heap.size W w') :
    Calls Tryz.prog 24 #[I5 true x, .bool up, .bool true] w fun e w' => e = .returned (.tuple #[I5 true x, .bool true]) ∧ Below w.heap.size w w' := by
  unfold I5 at *
  have HX := Lib.hid hx; have K1 := Lib.hid k1; have K2 := Lib.hid k2; clear hx k1 k2
  have L1 := Lib.hid (digs_eight HX.out); have L2 := Lib.hid (digs_eight (show 1 < 2 ^ 256 by decide)); have L3 := Lib.hid (digs_eight (show 2 ^ 53 < 2 ^ 256 by decide))
  go_enter Tryz.func24, Tryz.ntmps24
  go_wp2_with fail
  refine (K1.out _).mono ?_
  rintro e w1 ⟨rfl, hb⟩
  have BW1 : Below w.heap.size w w1 := btr (by repeat (first | (with_reducible exact Below.refl _ _) | (with_reducible refine bal ?_ _) | (with_reducible refine Below.drew ?_) | (with_reducible refine bdn ?_ _))) hb
  have X1 : Row5 w1 w.heap.size (.bool true) (.int .u64 (lb 0 x)) (.int .u64 (lb 1 x)) (.int .u64 (lb 2 x)) (.int .u64 (lb 3 x)) := Row5.keep hb (by repeat (first | (with_reducible exact Row5.new _ _ _ _ _ _) | ((with_reducible refine Row5.new' _ ?_ _ _ _ _ _); (simp; done)) | (with_reducible refine Row5.alloc ?_ _) | (with_reducible refine Row5.drew ?_)))
  have R1 : Row5 w1 (w.heap.size + 1) (.bool false) (.int .u64 0) (.int .u64 0) (.int .u64 0) (.int .u64 0) := Row5.keep hb (by repeat (first | (with_reducible exact Row5.new _ _ _ _ _ _) | ((with_reducible refine Row5.new' _ ?_ _ _ _ _ _); (simp; done)) | (with_reducible refine Row5.alloc ?_ _) | (with_reducible refine Row5.drew ?_)))
  clear hb
  obtain ⟨Xc0, Xc1, Xc2, Xc3, Xc4⟩ := X1.parts
  obtain ⟨Xf0, Xf1, Xf2, Xf3, Xf4⟩ := X1.free
  go_wp2_with fail
  refine (K2.out _).mono ?_
  rintro e w2 ⟨rfl, hb⟩
  have BW2 : Below w.heap.size w w2 := btr (by repeat (first | (with_reducible exact BW1) | (with_reducible refine bal ?_ _) | (with_reducible refine Below.drew ?_) | (with_reducible refine bdn ?_ _))) hb
  have X2 : Row5 w2 w.heap.size (.bool true) (.int .u64 (lb 0 x)) (.int .u64 (lb 1 x)) (.int .u64 (lb 2 x)) (.int .u64 (lb 3 x)) := Row5.keep hb (by repeat (first | (with_reducible exact X1) | (with_reducible refine Row5.alloc ?_ _) | (with_reducible refine Row5.drew ?_)))
  have R2 : Row5 w2 (w.heap.size + 1) (.bool false) (.int .u64 0) (.int .u64 0) (.int .u64 0) (.int .u64 0) := Row5.keep hb (by repeat (first | (with_reducible exact R1) | (with_reducible refine Row5.alloc ?_ _) | (with_reducible refine Row5.drew ?_)))
  clear X1 R1
  clear BW1
  clear hb
  obtain ⟨Xc0, Xc1, Xc2, Xc3, Xc4⟩ := X2.parts
  obtain ⟨Xf0, Xf1, Xf2, Xf3, Xf4⟩ := X2.free
  have nrx : ¬ w.heap.size + 1 = w.heap.size := by omega
  obtain ⟨Rc0, Rc1, Rc2, Rc3, Rc4⟩ := R2.parts
  obtain ⟨Rf0, Rf1, Rf2, Rf3, Rf4⟩ := R2.free
  have lt_R := R2.lt
  go_wp2
  exact bodyPost_ret (v := .tuple #[.agg #[.bool true, .int .u64 (lb 0 x), .int .u64 (lb 1 x), .int .u64 (lb 2 x), .int .u64 (lb 3 x)], .bool true]) (by simp [results, Tryz.results24, go_sem, Rc0, Rc1, Rc2, Rc3, Rc4]) rfl ⟨rfl, by repeat (first | (with_reducible exact BW2) | (with_reducible refine bal ?_ _) | (with_reducible refine Below.drew ?_) | (with_reducible refine bdn ?_ _) | ((with_reducible refine bsc ?_ ?_ _); rotate_left; (focus (simp only []; omega))))⟩
set_option maxHeartbeats 4000000 in
set_option maxRecDepth 100000 in
theorem rnear_cutup_true (x : Nat) (hx : x < 2 ^ 256) (h : Bool) (y0 y1 y2 y3 : Int) (b : Bool) (L k q v : Nat) (hk : (L : Int) - 53 = (k : Int)) (hk2 : k ≤ 300) (hq : q < 2 ^ 256) (w : World)
    (k1 : ∀ W, Calls Tryz.prog 30 #[I5 true x] W fun e w' => e = .returned (.bool true) ∧ Below W.heap.size W w')
    (k2 : ∀ W, Calls Tryz.prog 9 #[I5 true x] W fun e w' => e = .returned (.bool false) ∧ Below W.heap.size W w')
    (k3 : ∀ s' W, DR W s' x → Calls Tryz.prog 31 #[s'] W fun e w' => e = .returned (.int .i64 (L : Int)) ∧ Below W.heap.size W w')
    (k4 : ∀ s' W, DR W s' x → Calls Tryz.prog 49 #[s', .int .i64 (-(k : Int))] W fun e w' => ∃ s2, e = .returned s2 ∧ DR w' s2 q ∧ Below W.heap.size W w')
    (k5 : ∀ s' W, DR W s' (q + 1) → Calls Tryz.prog 49 #[s', .int .i64 (k : Int)] W fun e w' => ∃ s2, e = .returned s2 ∧ DR w' s2 v ∧ Below W.heap.size W w')
    (kw : ∀ s' W, DR W s' v → Calls Tryz.prog 51 #[.bool true, s'] W fun e w' => e = .returned (.tuple #[.agg #[.bool h, .int .u64 y0, .int .u64 y1, .int .u64 y2, .int .u64 y3], .bool b]) ∧ Below W.heap.size W w') :
    Calls Tryz.prog 24 #[I5 true x, .bool false, .bool true] w fun e w' => e = .returned (.tuple #[.agg #[.bool h, .int .u64 y0, .int .u64 y1, .int .u64 y2, .int .u64 y3], .bool b]) ∧ Below w.heap.size w w' := by
  unfold I5 at *
  have HX := Lib.hid hx; have K1 := Lib.hid k1; have K2 := Lib.hid k2; have K3 := Lib.hid k3; have K4 := Lib.hid k4; have K5 := Lib.hid k5; have KW := Lib.hid kw; clear hx k1 k2 k3 k4 k5 kw
  have L1 := Lib.hid (digs_eight HX.out); have L2 := Lib.hid (digs_eight (show 1 < 2 ^ 256 by decide)); have L3 := Lib.hid (digs_eight (show 2 ^ 53 < 2 ^ 256 by decide))
  have LQ := Lib.hid (digs_eight hq); clear hq
  go_enter Tryz.func24, Tryz.ntmps24
  go_wp2_with fail
  refine (K1.out _).mono ?_
  rintro e w1 ⟨rfl, hb⟩
  have BW1 : Below w.heap.size w w1 := btr (by repeat (first | (with_reducible exact Below.refl _ _) | (with_reducible refine bal ?_ _) | (with_reducible refine Below.drew ?_) | (with_reducible refine bdn ?_ _))) hb
  have X1 : Row5 w1 w.heap.size (.bool true) (.int .u64 (lb 0 x)) (.int .u64 (lb 1 x)) (.int .u64 (lb 2 x)) (.int .u64 (lb 3 x)) := Row5.keep hb (by repeat (first | (with_reducible exact Row5.new _ _ _ _ _ _) | ((with_reducible refine Row5.new' _ ?_ _ _ _ _ _); (simp; done)) | (with_reducible refine Row5.alloc ?_ _) | (with_reducible refine Row5.drew ?_)))
  have R1 : Row5 w1 (w.heap.size + 1) (.bool false) (.int .u64 0) (.int .u64 0) (.int .u64 0) (.int .u64 0) := Row5.keep hb (by repeat (first | (with_reducible exact Row5.new _ _ _ _ _ _) | ((with_reducible refine Row5.new' _ ?_ _ _ _ _ _); (simp; done)) | (with_reducible refine Row5.alloc ?_ _) | (with_reducible refine Row5.drew ?_)))
  clear hb
  obtain ⟨Xc0, Xc1, Xc2, Xc3, Xc4⟩ := X1.parts
  obtain ⟨Xf0, Xf1, Xf2, Xf3, Xf4⟩ := X1.free
  go_wp2_with fail
  refine (K2.out _).mono ?_
  rintro e w2 ⟨rfl, hb⟩
  have BW2 : Below w.heap.size w w2 := btr (by repeat (first | (with_reducible exact BW1) | (with_reducible refine bal ?_ _) | (with_reducible refine Below.drew ?_) | (with_reducible refine bdn ?_ _))) hb
  have X2 : Row5 w2 w.heap.size (.bool true) (.int .u64 (lb 0 x)) (.int .u64 (lb 1 x)) (.int .u64 (lb 2 x)) (.int .u64 (lb 3 x)) := Row5.keep hb (by repeat (first | (with_reducible exact X1) | (with_reducible refine Row5.alloc ?_ _) | (with_reducible refine Row5.drew ?_)))
  have R2 : Row5 w2 (w.heap.size + 1) (.bool false) (.int .u64 0) (.int .u64 0) (.int .u64 0) (.int .u64 0) := Row5.keep hb (by repeat (first | (with_reducible exact R1) | (with_reducible refine Row5.alloc ?_ _) | (with_reducible refine Row5.drew ?_)))
  clear X1 R1
  clear BW1
  clear hb
  obtain ⟨Xc0, Xc1, Xc2, Xc3, Xc4⟩ := X2.parts
  obtain ⟨Xf0, Xf1, Xf2, Xf3, Xf4⟩ := X2.free
  go_wp2_with fail
  refine (rof x HX.out _).mono ?_
  rintro e w3 ⟨s1, rfl, hr, hb⟩
  have hbX : Below w2.heap.size w2 w3 := btr (by repeat (first | (with_reducible exact Below.refl _ _) | (with_reducible refine bal ?_ _) | (with_reducible refine Below.drew ?_) | (with_reducible refine bdn ?_ _))) hb
  clear hbX
  have DX3 : DR w3 s1 x := hr
  clear hr
  have BW3 : Below w.heap.size w w3 := btr (by repeat (first | (with_reducible exact BW2) | (with_reducible refine bal ?_ _) | (with_reducible refine Below.drew ?_) | (with_reducible refine bdn ?_ _))) hb
  have X3 : Row5 w3 w.heap.size (.bool true) (.int .u64 (lb 0 x)) (.int .u64 (lb 1 x)) (.int .u64 (lb 2 x)) (.int .u64 (lb 3 x)) := Row5.keep hb (by repeat (first | (with_reducible exact X2) | (with_reducible refine Row5.alloc ?_ _) | (with_reducible refine Row5.drew ?_)))
  have R3 : Row5 w3 (w.heap.size + 1) (.bool false) (.int .u64 0) (.int .u64 0) (.int .u64 0) (.int .u64 0) := Row5.keep hb (by repeat (first | (with_reducible exact R2) | (with_reducible refine Row5.alloc ?_ _) | (with_reducible refine Row5.drew ?_)))
  clear X2 R2
  clear BW2
  clear hb
  obtain ⟨Xc0, Xc1, Xc2, Xc3, Xc4⟩ := X3.parts
  obtain ⟨Xf0, Xf1, Xf2, Xf3, Xf4⟩ := X3.free
  go_wp2_with fail
  refine (K3.out _ _ (DR.keep (by repeat (first | (with_reducible exact Below.refl _ _) | (with_reducible refine bal ?_ _) | (with_reducible refine Below.drew ?_) | (with_reducible refine bdn ?_ _))) DX3)).mono ?_
  rintro e w4 ⟨rfl, hb⟩
  have hbX : Below w3.heap.size w3 w4 := btr (by repeat (first | (with_reducible exact Below.refl _ _) | (with_reducible refine bal ?_ _) | (with_reducible refine Below.drew ?_) | (with_reducible refine bdn ?_ _))) hb
  have DX4 : DR w4 s1 x := DR.keep hbX DX3
  clear DX3
  clear hbX
  have BW4 : Below w.heap.size w w4 := btr (by repeat (first | (with_reducible exact BW3) | (with_reducible refine bal ?_ _) | (with_reducible refine Below.drew ?_) | (with_reducible refine bdn ?_ _))) hb
  have X4 : Row5 w4 w.heap.size (.bool true) (.int .u64 (lb 0 x)) (.int .u64 (lb 1 x)) (.int .u64 (lb 2 x)) (.int .u64 (lb 3 x)) := Row5.keep hb (by repeat (first | (with_reducible exact X3) | (with_reducible refine Row5.alloc ?_ _) | (with_reducible refine Row5.drew ?_)))
  have R4 : Row5 w4 (w.heap.size + 1) (.bool false) (.int .u64 0) (.int .u64 0) (.int .u64 0) (.int .u64 0) := Row5.keep hb (by repeat (first | (with_reducible exact R3) | (with_reducible refine Row5.alloc ?_ _) | (with_reducible refine Row5.drew ?_)))
  clear X3 R3
  clear BW3
  clear hb
  go_wp2_with fail
  refine (K4.out _ _ (DR.keep (by repeat (first | (with_reducible exact Below.refl _ _) | (with_reducible refine bal ?_ _) | (with_reducible refine Below.drew ?_) | (with_reducible refine bdn ?_ _))) DX4)).mono ?_
  rintro e w5 ⟨s2, rfl, hr, hb⟩
  have hbX : Below w4.heap.size w4 w5 := btr (by repeat (first | (with_reducible exact Below.refl _ _) | (with_reducible refine bal ?_ _) | (with_reducible refine Below.drew ?_) | (with_reducible refine bdn ?_ _))) hb
  have DX5 : DR w5 s1 x := DR.keep hbX DX4
  clear DX4
  clear hbX
  have DQ5 : DR w5 s2 q := hr
  clear hr
  have BW5 : Below w.heap.size w w5 := btr (by repeat (first | (with_reducible exact BW4) | (with_reducible refine bal ?_ _) | (with_reducible refine Below.drew ?_) | (with_reducible refine bdn ?_ _))) hb
  have X5 : Row5 w5 w.heap.size (.bool true) (.int .u64 (lb 0 x)) (.int .u64 (lb 1 x)) (.int .u64 (lb 2 x)) (.int .u64 (lb 3 x)) := Row5.keep hb (by repeat (first | (with_reducible exact X4) | (with_reducible refine Row5.alloc ?_ _) | (with_reducible refine Row5.drew ?_)))
  have R5 : Row5 w5 (w.heap.size + 1) (.bool false) (.int .u64 0) (.int .u64 0) (.int .u64 0) (.int .u64 0) := Row5.keep hb (by repeat (first | (with_reducible exact R4) | (with_reducible refine Row5.alloc ?_ _) | (with_reducible refine Row5.drew ?_)))
  clear X4 R4
  clear BW4
  clear hb
  go_wp2_with fail
  refine (radd (DR.keep (by repeat (first | (with_reducible exact Below.refl _ _) | (with_reducible refine bal ?_ _) | (with_reducible refine Below.drew ?_) | (with_reducible refine bdn ?_ _))) DQ5) (DR.keep (by repeat (first | (with_reducible exact Below.refl _ _) | (with_reducible refine bal ?_ _) | (with_reducible refine Below.drew ?_) | (with_reducible refine bdn ?_ _))) (ten_new w5 1 (by decide) (by decide) 1 rfl)) LQ.out L2.out).mono ?_
  rintro e w6 ⟨s3, rfl, hr, hb⟩
  have hbX : Below w5.heap.size w5 w6 := btr (by repeat (first | (with_reducible exact Below.refl _ _) | (with_reducible refine bal ?_ _) | (with_reducible refine Below.drew ?_) | (with_reducible refine bdn ?_ _))) hb
  have DX6 : DR w6 s1 x := DR.keep hbX DX5
  have DQ6 : DR w6 s2 q := DR.keep hbX DQ5
  clear DX5 DQ5
  clear hbX
  have DE6 : DR w6 s3 (q + 1) := hr
  clear hr
  have BW6 : Below w.heap.size w w6 := btr (by repeat (first | (with_reducible exact BW5) | (with_reducible refine bal ?_ _) | (with_reducible refine Below.drew ?_) | (with_reducible refine bdn ?_ _))) hb
  have X6 : Row5 w6 w.heap.size (.bool true) (.int .u64 (lb 0 x)) (.int .u64 (lb 1 x)) (.int .u64 (lb 2 x)) (.int .u64 (lb 3 x)) := Row5.keep hb (by repeat (first | (with_reducible exact X5) | (with_reducible refine Row5.alloc ?_ _) | (with_reducible refine Row5.drew ?_)))
  have R6 : Row5 w6 (w.heap.size + 1) (.bool false) (.int .u64 0) (.int .u64 0) (.int .u64 0) (.int .u64 0) := Row5.keep hb (by repeat (first | (with_reducible exact R5) | (with_reducible refine Row5.alloc ?_ _) | (with_reducible refine Row5.drew ?_)))
  clear X5 R5
  clear BW5
  clear hb
  go_upto_region 12 with (fail)
  go_name_world w7 hw7
  have BW7 : Below w.heap.size w w7 := by rw [← hw7]; repeat (first | (with_reducible exact BW6) | (with_reducible refine bal ?_ _) | (with_reducible refine Below.drew ?_) | (with_reducible refine bdn ?_ _))
  have hbX : Below w6.heap.size w6 w7 := by rw [← hw7]; repeat (first | (with_reducible exact Below.refl _ _) | (with_reducible refine bal ?_ _) | (with_reducible refine Below.drew ?_) | (with_reducible refine bdn ?_ _))
  have DX7 : DR w7 s1 x := DR.keep hbX DX6
  have DQ7 : DR w7 s2 q := DR.keep hbX DQ6
  have DE7 : DR w7 s3 (q + 1) := DR.keep hbX DE6
  clear hbX DX6 DQ6 DE6
  have X7 : Row5 w7 w.heap.size (.bool true) (.int .u64 (lb 0 x)) (.int .u64 (lb 1 x)) (.int .u64 (lb 2 x)) (.int .u64 (lb 3 x)) := by rw [← hw7]; exact (by repeat (first | (with_reducible exact X6) | (with_reducible refine Row5.alloc ?_ _) | (with_reducible refine Row5.drew ?_)))
  have R7 : Row5 w7 (w.heap.size + 1) (.bool false) (.int .u64 0) (.int .u64 0) (.int .u64 0) (.int .u64 0) := by rw [← hw7]; exact (by repeat (first | (with_reducible exact R6) | (with_reducible refine Row5.alloc ?_ _) | (with_reducible refine Row5.drew ?_)))
  clear X6 R6
  clear BW6
  clear hw7
  have lt_X := X7.lt
  have lt_R := R7.lt
  go_region_held3 (fun w' => w'.cell? ⟨w.heap.size, 0, none⟩ = some (.bool true) ∧ w'.cell? ⟨w.heap.size, 1, none⟩ = some (.int .u64 (lb 0 x)) ∧ w'.cell? ⟨w.heap.size, 2, none⟩ = some (.int .u64 (lb 1 x)) ∧ w'.cell? ⟨w.heap.size, 3, none⟩ = some (.int .u64 (lb 2 x)) ∧ w'.cell? ⟨w.heap.size, 4, none⟩ = some (.int .u64 (lb 3 x)))
    ((refine Row5.parts ?_; (repeat (first | (with_reducible assumption) | (with_reducible refine Row5.alloc ?_ _) | (with_reducible refine Row5.drew ?_) | (with_reducible refine Row5.drewN ?_ _) | ((with_reducible refine Row5.set ?_ ?_ _); rotate_left; (focus (omega))))); done))
    (first | (go_at_call 49; (with_reducible refine (K5.out _ _ (DR.keep (by repeat (first | (with_reducible exact Below.refl _ _) | (with_reducible refine bal ?_ _) | (with_reducible refine Below.drew ?_) | (with_reducible refine bdn ?_ _))) DE7)).mono ?_); rintro e wa ⟨sa, rfl, hra, hba⟩; have ba : Below w.heap.size w wa := btr (by repeat (first | (with_reducible exact BW7) | (with_reducible refine bal ?_ _) | (with_reducible refine Below.drew ?_) | (with_reducible refine bdn ?_ _))) hba; have Xa : Row5 wa w.heap.size (.bool true) (.int .u64 (lb 0 x)) (.int .u64 (lb 1 x)) (.int .u64 (lb 2 x)) (.int .u64 (lb 3 x)) := Row5.keep hba (by repeat (first | (with_reducible exact X7) | (with_reducible refine Row5.alloc ?_ _) | (with_reducible refine Row5.drew ?_) | (with_reducible refine Row5.drewN ?_ _))); have Ra : Row5 wa (w.heap.size + 1) (.bool false) (.int .u64 0) (.int .u64 0) (.int .u64 0) (.int .u64 0) := Row5.keep hba (by repeat (first | (with_reducible exact R7) | (with_reducible refine Row5.alloc ?_ _) | (with_reducible refine Row5.drew ?_) | (with_reducible refine Row5.drewN ?_ _))); obtain ⟨xa0, xa1, xa2, xa3, xa4⟩ := Xa.parts) | (go_at_call 51; (with_reducible refine (KW.out _ _ (DR.keep (by repeat (first | (with_reducible exact Below.refl _ _) | (with_reducible refine bal ?_ _) | (with_reducible refine Below.drew ?_) | (with_reducible refine bdn ?_ _))) hra)).mono ?_); rintro e wb ⟨rfl, hbb⟩; have bb : Below w.heap.size w wb := btr (by repeat (first | (with_reducible exact ba) | (with_reducible refine bal ?_ _) | (with_reducible refine Below.drew ?_) | (with_reducible refine bdn ?_ _))) hbb; have Rb : Row5 wb (w.heap.size + 1) (.bool false) (.int .u64 0) (.int .u64 0) (.int .u64 0) (.int .u64 0) := Row5.keep hbb (by repeat (first | (with_reducible exact Ra) | (with_reducible refine Row5.alloc ?_ _) | (with_reducible refine Row5.drew ?_) | (with_reducible refine Row5.drewN ?_ _))); have Xb : Row5 wb w.heap.size (.bool true) (.int .u64 (lb 0 x)) (.int .u64 (lb 1 x)) (.int .u64 (lb 2 x)) (.int .u64 (lb 3 x)) := Row5.keep hbb (by repeat (first | (with_reducible exact Xa) | (with_reducible refine Row5.alloc ?_ _) | (with_reducible refine Row5.drew ?_) | (with_reducible refine Row5.drewN ?_ _))); obtain ⟨rb0, rb1, rb2, rb3, rb4⟩ := Rb.parts; obtain ⟨rg0, rg1, rg2, rg3, rg4⟩ := Rb.free; have ltb := Rb.lt; have ltc := Xb.lt; have nbx : ¬ w.heap.size + 1 = w.heap.size := by omega))
  all_goals
    go_wp2
    exact bodyPost_ret (v := .tuple #[.agg #[.bool h, .int .u64 y0, .int .u64 y1, .int .u64 y2, .int .u64 y3], .bool b]) (by simp [results, Tryz.results24, go_sem, rb0, rb1, rb2, rb3, rb4]) rfl ⟨rfl, by repeat (first | (with_reducible exact bb) | (with_reducible refine bal ?_ _) | (with_reducible refine Below.drew ?_) | (with_reducible refine bdn ?_ _) | ((with_reducible refine bsc ?_ ?_ _); rotate_left; (focus (simp only []; omega))))⟩
set_option maxHeartbeats 4000000 in
set_option maxRecDepth 100000 in
theorem rnear_cut_true (x : Nat) (hx : x < 2 ^ 256) (h : Bool) (y0 y1 y2 y3 : Int) (b : Bool) (L k q v : Nat) (hk : (L : Int) - 53 = (k : Int)) (hk2 : k ≤ 300) (w : World)
    (k1 : ∀ W, Calls Tryz.prog 30 #[I5 true x] W fun e w' => e = .returned (.bool true) ∧ Below W.heap.size W w')
    (k2 : ∀ W, Calls Tryz.prog 9 #[I5 true x] W fun e w' => e = .returned (.bool false) ∧ Below W.heap.size W w')
    (k3 : ∀ s' W, DR W s' x → Calls Tryz.prog 31 #[s'] W fun e w' => e = .returned (.int .i64 (L : Int)) ∧ Below W.heap.size W w')
    (k4 : ∀ s' W, DR W s' x → Calls Tryz.prog 49 #[s', .int .i64 (-(k : Int))] W fun e w' => ∃ s2, e = .returned s2 ∧ DR w' s2 q ∧ Below W.heap.size W w')
    (k5 : ∀ s' W, DR W s' q → Calls Tryz.prog 49 #[s', .int .i64 (k : Int)] W fun e w' => ∃ s2, e = .returned s2 ∧ DR w' s2 v ∧ Below W.heap.size W w')
    (kw : ∀ s' W, DR W s' v → Calls Tryz.prog 51 #[.bool true, s'] W fun e w' => e = .returned (.tuple #[.agg #[.bool h, .int .u64 y0, .int .u64 y1, .int .u64 y2, .int .u64 y3], .bool b]) ∧ Below W.heap.size W w') :
    Calls Tryz.prog 24 #[I5 true x, .bool true, .bool true] w fun e w' => e = .returned (.tuple #[.agg #[.bool h, .int .u64 y0, .int .u64 y1, .int .u64 y2, .int .u64 y3], .bool b]) ∧ Below w.heap.size w w' := by
  unfold I5 at *
  have HX := Lib.hid hx; have K1 := Lib.hid k1; have K2 := Lib.hid k2; have K3 := Lib.hid k3; have K4 := Lib.hid k4; have K5 := Lib.hid k5; have KW := Lib.hid kw; clear hx k1 k2 k3 k4 k5 kw
  have L1 := Lib.hid (digs_eight HX.out); have L2 := Lib.hid (digs_eight (show 1 < 2 ^ 256 by decide)); have L3 := Lib.hid (digs_eight (show 2 ^ 53 < 2 ^ 256 by decide))
  go_enter Tryz.func24, Tryz.ntmps24
  go_wp2_with fail
  refine (K1.out _).mono ?_
  rintro e w1 ⟨rfl, hb⟩
  have BW1 : Below w.heap.size w w1 := btr (by repeat (first | (with_reducible exact Below.refl _ _) | (with_reducible refine bal ?_ _) | (with_reducible refine Below.drew ?_) | (with_reducible refine bdn ?_ _))) hb
  have X1 : Row5 w1 w.heap.size (.bool true) (.int .u64 (lb 0 x)) (.int .u64 (lb 1 x)) (.int .u64 (lb 2 x)) (.int .u64 (lb 3 x)) := Row5.keep hb (by repeat (first | (with_reducible exact Row5.new _ _ _ _ _ _) | ((with_reducible refine Row5.new' _ ?_ _ _ _ _ _); (simp; done)) | (with_reducible refine Row5.alloc ?_ _) | (with_reducible refine Row5.drew ?_)))
  have R1 : Row5 w1 (w.heap.size + 1) (.bool false) (.int .u64 0) (.int .u64 0) (.int .u64 0) (.int .u64 0) := Row5.keep hb (by repeat (first | (with_reducible exact Row5.new _ _ _ _ _ _) | ((with_reducible refine Row5.new' _ ?_ _ _ _ _ _); (simp; done)) | (with_reducible refine Row5.alloc ?_ _) | (with_reducible refine Row5.drew ?_)))
  clear hb
  obtain ⟨Xc0, Xc1, Xc2, Xc3, Xc4⟩ := X1.parts
  obtain ⟨Xf0, Xf1, Xf2, Xf3, Xf4⟩ := X1.free
  go_wp2_with fail
  refine (K2.out _).mono ?_
  rintro e w2 ⟨rfl, hb⟩
  have BW2 : Below w.heap.size w w2 := btr (by repeat (first | (with_reducible exact BW1) | (with_reducible refine bal ?_ _) | (with_reducible refine Below.drew ?_) | (with_reducible refine bdn ?_ _))) hb
  have X2 : Row5 w2 w.heap.size (.bool true) (.int .u64 (lb 0 x)) (.int .u64 (lb 1 x)) (.int .u64 (lb 2 x)) (.int .u64 (lb 3 x)) := Row5.keep hb (by repeat (first | (with_reducible exact X1) | (with_reducible refine Row5.alloc ?_ _) | (with_reducible refine Row5.drew ?_)))
  have R2 : Row5 w2 (w.heap.size + 1) (.bool false) (.int .u64 0) (.int .u64 0) (.int .u64 0) (.int .u64 0) := Row5.keep hb (by repeat (first | (with_reducible exact R1) | (with_reducible refine Row5.alloc ?_ _) | (with_reducible refine Row5.drew ?_)))
  clear X1 R1
  clear BW1
  clear hb
  obtain ⟨Xc0, Xc1, Xc2, Xc3, Xc4⟩ := X2.parts
  obtain ⟨Xf0, Xf1, Xf2, Xf3, Xf4⟩ := X2.free
  go_wp2_with fail
  refine (rof x HX.out _).mono ?_
  rintro e w3 ⟨s1, rfl, hr, hb⟩
  have hbX : Below w2.heap.size w2 w3 := btr (by repeat (first | (with_reducible exact Below.refl _ _) | (with_reducible refine bal ?_ _) | (with_reducible refine Below.drew ?_) | (with_reducible refine bdn ?_ _))) hb
  clear hbX
  have DX3 : DR w3 s1 x := hr
  clear hr
  have BW3 : Below w.heap.size w w3 := btr (by repeat (first | (with_reducible exact BW2) | (with_reducible refine bal ?_ _) | (with_reducible refine Below.drew ?_) | (with_reducible refine bdn ?_ _))) hb
  have X3 : Row5 w3 w.heap.size (.bool true) (.int .u64 (lb 0 x)) (.int .u64 (lb 1 x)) (.int .u64 (lb 2 x)) (.int .u64 (lb 3 x)) := Row5.keep hb (by repeat (first | (with_reducible exact X2) | (with_reducible refine Row5.alloc ?_ _) | (with_reducible refine Row5.drew ?_)))
  have R3 : Row5 w3 (w.heap.size + 1) (.bool false) (.int .u64 0) (.int .u64 0) (.int .u64 0) (.int .u64 0) := Row5.keep hb (by repeat (first | (with_reducible exact R2) | (with_reducible refine Row5.alloc ?_ _) | (with_reducible refine Row5.drew ?_)))
  clear X2 R2
  clear BW2
  clear hb
  obtain ⟨Xc0, Xc1, Xc2, Xc3, Xc4⟩ := X3.parts
  obtain ⟨Xf0, Xf1, Xf2, Xf3, Xf4⟩ := X3.free
  go_wp2_with fail
  refine (K3.out _ _ (DR.keep (by repeat (first | (with_reducible exact Below.refl _ _) | (with_reducible refine bal ?_ _) | (with_reducible refine Below.drew ?_) | (with_reducible refine bdn ?_ _))) DX3)).mono ?_
  rintro e w4 ⟨rfl, hb⟩
  have hbX : Below w3.heap.size w3 w4 := btr (by repeat (first | (with_reducible exact Below.refl _ _) | (with_reducible refine bal ?_ _) | (with_reducible refine Below.drew ?_) | (with_reducible refine bdn ?_ _))) hb
  have DX4 : DR w4 s1 x := DR.keep hbX DX3
  clear DX3
  clear hbX
  have BW4 : Below w.heap.size w w4 := btr (by repeat (first | (with_reducible exact BW3) | (with_reducible refine bal ?_ _) | (with_reducible refine Below.drew ?_) | (with_reducible refine bdn ?_ _))) hb
  have X4 : Row5 w4 w.heap.size (.bool true) (.int .u64 (lb 0 x)) (.int .u64 (lb 1 x)) (.int .u64 (lb 2 x)) (.int .u64 (lb 3 x)) := Row5.keep hb (by repeat (first | (with_reducible exact X3) | (with_reducible refine Row5.alloc ?_ _) | (with_reducible refine Row5.drew ?_)))
  have R4 : Row5 w4 (w.heap.size + 1) (.bool false) (.int .u64 0) (.int .u64 0) (.int .u64 0) (.int .u64 0) := Row5.keep hb (by repeat (first | (with_reducible exact R3) | (with_reducible refine Row5.alloc ?_ _) | (with_reducible refine Row5.drew ?_)))
  clear X3 R3
  clear BW3
  clear hb
  go_wp2_with fail
  refine (K4.out _ _ (DR.keep (by repeat (first | (with_reducible exact Below.refl _ _) | (with_reducible refine bal ?_ _) | (with_reducible refine Below.drew ?_) | (with_reducible refine bdn ?_ _))) DX4)).mono ?_
  rintro e w5 ⟨s2, rfl, hr, hb⟩
  have hbX : Below w4.heap.size w4 w5 := btr (by repeat (first | (with_reducible exact Below.refl _ _) | (with_reducible refine bal ?_ _) | (with_reducible refine Below.drew ?_) | (with_reducible refine bdn ?_ _))) hb
  have DX5 : DR w5 s1 x := DR.keep hbX DX4
  clear DX4
  clear hbX
  have DQ5 : DR w5 s2 q := hr
  clear hr
  have BW5 : Below w.heap.size w w5 := btr (by repeat (first | (with_reducible exact BW4) | (with_reducible refine bal ?_ _) | (with_reducible refine Below.drew ?_) | (with_reducible refine bdn ?_ _))) hb
  have X5 : Row5 w5 w.heap.size (.bool true) (.int .u64 (lb 0 x)) (.int .u64 (lb 1 x)) (.int .u64 (lb 2 x)) (.int .u64 (lb 3 x)) := Row5.keep hb (by repeat (first | (with_reducible exact X4) | (with_reducible refine Row5.alloc ?_ _) | (with_reducible refine Row5.drew ?_)))
  have R5 : Row5 w5 (w.heap.size + 1) (.bool false) (.int .u64 0) (.int .u64 0) (.int .u64 0) (.int .u64 0) := Row5.keep hb (by repeat (first | (with_reducible exact R4) | (with_reducible refine Row5.alloc ?_ _) | (with_reducible refine Row5.drew ?_)))
  clear X4 R4
  clear BW4
  clear hb
  go_upto_region 12 with (fail)
  go_name_world w6 hw6
  have BW6 : Below w.heap.size w w6 := by rw [← hw6]; repeat (first | (with_reducible exact BW5) | (with_reducible refine bal ?_ _) | (with_reducible refine Below.drew ?_) | (with_reducible refine bdn ?_ _))
  have hbX : Below w5.heap.size w5 w6 := by rw [← hw6]; repeat (first | (with_reducible exact Below.refl _ _) | (with_reducible refine bal ?_ _) | (with_reducible refine Below.drew ?_) | (with_reducible refine bdn ?_ _))
  have DX6 : DR w6 s1 x := DR.keep hbX DX5
  have DQ6 : DR w6 s2 q := DR.keep hbX DQ5
  clear hbX DX5 DQ5
  have X6 : Row5 w6 w.heap.size (.bool true) (.int .u64 (lb 0 x)) (.int .u64 (lb 1 x)) (.int .u64 (lb 2 x)) (.int .u64 (lb 3 x)) := by rw [← hw6]; exact (by repeat (first | (with_reducible exact X5) | (with_reducible refine Row5.alloc ?_ _) | (with_reducible refine Row5.drew ?_)))
  have R6 : Row5 w6 (w.heap.size + 1) (.bool false) (.int .u64 0) (.int .u64 0) (.int .u64 0) (.int .u64 0) := by rw [← hw6]; exact (by repeat (first | (with_reducible exact R5) | (with_reducible refine Row5.alloc ?_ _) | (with_reducible refine Row5.drew ?_)))
  clear X5 R5
  clear BW5
  clear hw6
  have lt_X := X6.lt
  have lt_R := R6.lt
  go_region_held3 (fun w' => w'.cell? ⟨w.heap.size, 0, none⟩ = some (.bool true) ∧ w'.cell? ⟨w.heap.size, 1, none⟩ = some (.int .u64 (lb 0 x)) ∧ w'.cell? ⟨w.heap.size, 2, none⟩ = some (.int .u64 (lb 1 x)) ∧ w'.cell? ⟨w.heap.size, 3, none⟩ = some (.int .u64 (lb 2 x)) ∧ w'.cell? ⟨w.heap.size, 4, none⟩ = some (.int .u64 (lb 3 x)))
    ((refine Row5.parts ?_; (repeat (first | (with_reducible assumption) | (with_reducible refine Row5.alloc ?_ _) | (with_reducible refine Row5.drew ?_) | (with_reducible refine Row5.drewN ?_ _) | ((with_reducible refine Row5.set ?_ ?_ _); rotate_left; (focus (omega))))); done))
    (first | (go_at_call 49; (with_reducible refine (K5.out _ _ (DR.keep (by repeat (first | (with_reducible exact Below.refl _ _) | (with_reducible refine bal ?_ _) | (with_reducible refine Below.drew ?_) | (with_reducible refine bdn ?_ _))) DQ6)).mono ?_); rintro e wa ⟨sa, rfl, hra, hba⟩; have ba : Below w.heap.size w wa := btr (by repeat (first | (with_reducible exact BW6) | (with_reducible refine bal ?_ _) | (with_reducible refine Below.drew ?_) | (with_reducible refine bdn ?_ _))) hba; have Xa : Row5 wa w.heap.size (.bool true) (.int .u64 (lb 0 x)) (.int .u64 (lb 1 x)) (.int .u64 (lb 2 x)) (.int .u64 (lb 3 x)) := Row5.keep hba (by repeat (first | (with_reducible exact X6) | (with_reducible refine Row5.alloc ?_ _) | (with_reducible refine Row5.drew ?_) | (with_reducible refine Row5.drewN ?_ _))); have Ra : Row5 wa (w.heap.size + 1) (.bool false) (.int .u64 0) (.int .u64 0) (.int .u64 0) (.int .u64 0) := Row5.keep hba (by repeat (first | (with_reducible exact R6) | (with_reducible refine Row5.alloc ?_ _) | (with_reducible refine Row5.drew ?_) | (with_reducible refine Row5.drewN ?_ _))); obtain ⟨xa0, xa1, xa2, xa3, xa4⟩ := Xa.parts) | (go_at_call 51; (with_reducible refine (KW.out _ _ (DR.keep (by repeat (first | (with_reducible exact Below.refl _ _) | (with_reducible refine bal ?_ _) | (with_reducible refine Below.drew ?_) | (with_reducible refine bdn ?_ _))) hra)).mono ?_); rintro e wb ⟨rfl, hbb⟩; have bb : Below w.heap.size w wb := btr (by repeat (first | (with_reducible exact ba) | (with_reducible refine bal ?_ _) | (with_reducible refine Below.drew ?_) | (with_reducible refine bdn ?_ _))) hbb; have Rb : Row5 wb (w.heap.size + 1) (.bool false) (.int .u64 0) (.int .u64 0) (.int .u64 0) (.int .u64 0) := Row5.keep hbb (by repeat (first | (with_reducible exact Ra) | (with_reducible refine Row5.alloc ?_ _) | (with_reducible refine Row5.drew ?_) | (with_reducible refine Row5.drewN ?_ _))); have Xb : Row5 wb w.heap.size (.bool true) (.int .u64 (lb 0 x)) (.int .u64 (lb 1 x)) (.int .u64 (lb 2 x)) (.int .u64 (lb 3 x)) := Row5.keep hbb (by repeat (first | (with_reducible exact Xa) | (with_reducible refine Row5.alloc ?_ _) | (with_reducible refine Row5.drew ?_) | (with_reducible refine Row5.drewN ?_ _))); obtain ⟨rb0, rb1, rb2, rb3, rb4⟩ := Rb.parts; obtain ⟨rg0, rg1, rg2, rg3, rg4⟩ := Rb.free; have ltb := Rb.lt; have ltc := Xb.lt; have nbx : ¬ w.heap.size + 1 = w.heap.size := by omega))
  all_goals
    go_wp2
    exact bodyPost_ret (v := .tuple #[.agg #[.bool h, .int .u64 y0, .int .u64 y1, .int .u64 y2, .int .u64 y3], .bool b]) (by simp [results, Tryz.results24, go_sem, rb0, rb1, rb2, rb3, rb4]) rfl ⟨rfl, by repeat (first | (with_reducible exact bb) | (with_reducible refine bal ?_ _) | (with_reducible refine Below.drew ?_) | (with_reducible refine bdn ?_ _) | ((with_reducible refine bsc ?_ ?_ _); rotate_left; (focus (simp only []; omega))))⟩
set_option maxHeartbeats 4000000 in
set_option maxRecDepth 100000 in
theorem rnear_least_true (x : Nat) (hx : x < 2 ^ 256) (h : Bool) (y0 y1 y2 y3 : Int) (b : Bool) (L : Nat) (hL : (L : Int) ≤ 53) (w : World)
    (k1 : ∀ W, Calls Tryz.prog 30 #[I5 true x] W fun e w' => e = .returned (.bool true) ∧ Below W.heap.size W w')
    (k2 : ∀ W, Calls Tryz.prog 9 #[I5 true x] W fun e w' => e = .returned (.bool true) ∧ Below W.heap.size W w')
    (k3 : ∀ s' W, DR W s' x → Calls Tryz.prog 31 #[s'] W fun e w' => e = .returned (.int .i64 (L : Int)) ∧ Below W.heap.size W w')
    (kw : ∀ s' W, DR W s' 9007199254740993 → Calls Tryz.prog 51 #[.bool true, s'] W fun e w' => e = .returned (.tuple #[.agg #[.bool h, .int .u64 y0, .int .u64 y1, .int .u64 y2, .int .u64 y3], .bool b]) ∧ Below W.heap.size W w') :
    Calls Tryz.prog 24 #[I5 true x, .bool false, .bool false] w fun e w' => e = .returned (.tuple #[.agg #[.bool h, .int .u64 y0, .int .u64 y1, .int .u64 y2, .int .u64 y3], .bool b]) ∧ Below w.heap.size w w' := by
  unfold I5 at *
  have HX := Lib.hid hx; have K1 := Lib.hid k1; have K2 := Lib.hid k2; have K3 := Lib.hid k3; have KW := Lib.hid kw; clear hx k1 k2 k3 kw
  have L1 := Lib.hid (digs_eight HX.out); have L2 := Lib.hid (digs_eight (show 1 < 2 ^ 256 by decide)); have L3 := Lib.hid (digs_eight (show 2 ^ 53 < 2 ^ 256 by decide))
  go_enter Tryz.func24, Tryz.ntmps24
  go_wp2_with fail
  refine (K1.out _).mono ?_
  rintro e w1 ⟨rfl, hb⟩
  have BW1 : Below w.heap.size w w1 := btr (by repeat (first | (with_reducible exact Below.refl _ _) | (with_reducible refine bal ?_ _) | (with_reducible refine Below.drew ?_) | (with_reducible refine bdn ?_ _))) hb
  have X1 : Row5 w1 w.heap.size (.bool true) (.int .u64 (lb 0 x)) (.int .u64 (lb 1 x)) (.int .u64 (lb 2 x)) (.int .u64 (lb 3 x)) := Row5.keep hb (by repeat (first | (with_reducible exact Row5.new _ _ _ _ _ _) | ((with_reducible refine Row5.new' _ ?_ _ _ _ _ _); (simp; done)) | (with_reducible refine Row5.alloc ?_ _) | (with_reducible refine Row5.drew ?_)))
  have R1 : Row5 w1 (w.heap.size + 1) (.bool false) (.int .u64 0) (.int .u64 0) (.int .u64 0) (.int .u64 0) := Row5.keep hb (by repeat (first | (with_reducible exact Row5.new _ _ _ _ _ _) | ((with_reducible refine Row5.new' _ ?_ _ _ _ _ _); (simp; done)) | (with_reducible refine Row5.alloc ?_ _) | (with_reducible refine Row5.drew ?_)))
  clear hb
  obtain ⟨Xc0, Xc1, Xc2, Xc3, Xc4⟩ := X1.parts
  obtain ⟨Xf0, Xf1, Xf2, Xf3, Xf4⟩ := X1.free
  go_wp2_with fail
  refine (K2.out _).mono ?_
  rintro e w2 ⟨rfl, hb⟩
  have BW2 : Below w.heap.size w w2 := btr (by repeat (first | (with_reducible exact BW1) | (with_reducible refine bal ?_ _) | (with_reducible refine Below.drew ?_) | (with_reducible refine bdn ?_ _))) hb
  have X2 : Row5 w2 w.heap.size (.bool true) (.int .u64 (lb 0 x)) (.int .u64 (lb 1 x)) (.int .u64 (lb 2 x)) (.int .u64 (lb 3 x)) := Row5.keep hb (by repeat (first | (with_reducible exact X1) | (with_reducible refine Row5.alloc ?_ _) | (with_reducible refine Row5.drew ?_)))
  have R2 : Row5 w2 (w.heap.size + 1) (.bool false) (.int .u64 0) (.int .u64 0) (.int .u64 0) (.int .u64 0) := Row5.keep hb (by repeat (first | (with_reducible exact R1) | (with_reducible refine Row5.alloc ?_ _) | (with_reducible refine Row5.drew ?_)))
  clear X1 R1
  clear BW1
  clear hb
  obtain ⟨Xc0, Xc1, Xc2, Xc3, Xc4⟩ := X2.parts
  obtain ⟨Xf0, Xf1, Xf2, Xf3, Xf4⟩ := X2.free
  go_wp2_with fail
  refine (rof x HX.out _).mono ?_
  rintro e w3 ⟨s1, rfl, hr, hb⟩
  have hbX : Below w2.heap.size w2 w3 := btr (by repeat (first | (with_reducible exact Below.refl _ _) | (with_reducible refine bal ?_ _) | (with_reducible refine Below.drew ?_) | (with_reducible refine bdn ?_ _))) hb
  clear hbX
  have DX3 : DR w3 s1 x := hr
  clear hr
  have BW3 : Below w.heap.size w w3 := btr (by repeat (first | (with_reducible exact BW2) | (with_reducible refine bal ?_ _) | (with_reducible refine Below.drew ?_) | (with_reducible refine bdn ?_ _))) hb
  have X3 : Row5 w3 w.heap.size (.bool true) (.int .u64 (lb 0 x)) (.int .u64 (lb 1 x)) (.int .u64 (lb 2 x)) (.int .u64 (lb 3 x)) := Row5.keep hb (by repeat (first | (with_reducible exact X2) | (with_reducible refine Row5.alloc ?_ _) | (with_reducible refine Row5.drew ?_)))
  have R3 : Row5 w3 (w.heap.size + 1) (.bool false) (.int .u64 0) (.int .u64 0) (.int .u64 0) (.int .u64 0) := Row5.keep hb (by repeat (first | (with_reducible exact R2) | (with_reducible refine Row5.alloc ?_ _) | (with_reducible refine Row5.drew ?_)))
  clear X2 R2
  clear BW2
  clear hb
  obtain ⟨Xc0, Xc1, Xc2, Xc3, Xc4⟩ := X3.parts
  obtain ⟨Xf0, Xf1, Xf2, Xf3, Xf4⟩ := X3.free
  go_wp2_with fail
  refine ((rpow_53 _)).mono ?_
  rintro e w4 ⟨s2, rfl, hr, hb⟩
  have hbX : Below w3.heap.size w3 w4 := btr (by repeat (first | (with_reducible exact Below.refl _ _) | (with_reducible refine bal ?_ _) | (with_reducible refine Below.drew ?_) | (with_reducible refine bdn ?_ _))) hb
  have DX4 : DR w4 s1 x := DR.keep hbX DX3
  clear DX3
  clear hbX
  have DP4 : DR w4 s2 (2 ^ 53) := hr
  clear hr
  have BW4 : Below w.heap.size w w4 := btr (by repeat (first | (with_reducible exact BW3) | (with_reducible refine bal ?_ _) | (with_reducible refine Below.drew ?_) | (with_reducible refine bdn ?_ _))) hb
  have X4 : Row5 w4 w.heap.size (.bool true) (.int .u64 (lb 0 x)) (.int .u64 (lb 1 x)) (.int .u64 (lb 2 x)) (.int .u64 (lb 3 x)) := Row5.keep hb (by repeat (first | (with_reducible exact X3) | (with_reducible refine Row5.alloc ?_ _) | (with_reducible refine Row5.drew ?_)))
  have R4 : Row5 w4 (w.heap.size + 1) (.bool false) (.int .u64 0) (.int .u64 0) (.int .u64 0) (.int .u64 0) := Row5.keep hb (by repeat (first | (with_reducible exact R3) | (with_reducible refine Row5.alloc ?_ _) | (with_reducible refine Row5.drew ?_)))
  clear X3 R3
  clear BW3
  clear hb
  go_wp2_with fail
  refine (radd_least (DR.keep (by repeat (first | (with_reducible exact Below.refl _ _) | (with_reducible refine bal ?_ _) | (with_reducible refine Below.drew ?_) | (with_reducible refine bdn ?_ _))) DP4) (DR.keep (by repeat (first | (with_reducible exact Below.refl _ _) | (with_reducible refine bal ?_ _) | (with_reducible refine Below.drew ?_) | (with_reducible refine bdn ?_ _))) (ten_new w4 1 (by decide) (by decide) 1 rfl)) L3.out L2.out).mono ?_
  rintro e w5 ⟨s3, rfl, hr, hb⟩
  have hbX : Below w4.heap.size w4 w5 := btr (by repeat (first | (with_reducible exact Below.refl _ _) | (with_reducible refine bal ?_ _) | (with_reducible refine Below.drew ?_) | (with_reducible refine bdn ?_ _))) hb
  have DX5 : DR w5 s1 x := DR.keep hbX DX4
  have DP5 : DR w5 s2 (2 ^ 53) := DR.keep hbX DP4
  clear DX4 DP4
  clear hbX
  have DL5 : DR w5 s3 9007199254740993 := hr
  clear hr
  have BW5 : Below w.heap.size w w5 := btr (by repeat (first | (with_reducible exact BW4) | (with_reducible refine bal ?_ _) | (with_reducible refine Below.drew ?_) | (with_reducible refine bdn ?_ _))) hb
  have X5 : Row5 w5 w.heap.size (.bool true) (.int .u64 (lb 0 x)) (.int .u64 (lb 1 x)) (.int .u64 (lb 2 x)) (.int .u64 (lb 3 x)) := Row5.keep hb (by repeat (first | (with_reducible exact X4) | (with_reducible refine Row5.alloc ?_ _) | (with_reducible refine Row5.drew ?_)))
  have R5 : Row5 w5 (w.heap.size + 1) (.bool false) (.int .u64 0) (.int .u64 0) (.int .u64 0) (.int .u64 0) := Row5.keep hb (by repeat (first | (with_reducible exact R4) | (with_reducible refine Row5.alloc ?_ _) | (with_reducible refine Row5.drew ?_)))
  clear X4 R4
  clear BW4
  clear hb
  go_wp2_with fail
  refine (K3.out _ _ (DR.keep (by repeat (first | (with_reducible exact Below.refl _ _) | (with_reducible refine bal ?_ _) | (with_reducible refine Below.drew ?_) | (with_reducible refine bdn ?_ _))) DX5)).mono ?_
  rintro e w6 ⟨rfl, hb⟩
  have hbX : Below w5.heap.size w5 w6 := btr (by repeat (first | (with_reducible exact Below.refl _ _) | (with_reducible refine bal ?_ _) | (with_reducible refine Below.drew ?_) | (with_reducible refine bdn ?_ _))) hb
  have DX6 : DR w6 s1 x := DR.keep hbX DX5
  have DP6 : DR w6 s2 (2 ^ 53) := DR.keep hbX DP5
  have DL6 : DR w6 s3 9007199254740993 := DR.keep hbX DL5
  clear DX5 DP5 DL5
  clear hbX
  have BW6 : Below w.heap.size w w6 := btr (by repeat (first | (with_reducible exact BW5) | (with_reducible refine bal ?_ _) | (with_reducible refine Below.drew ?_) | (with_reducible refine bdn ?_ _))) hb
  have X6 : Row5 w6 w.heap.size (.bool true) (.int .u64 (lb 0 x)) (.int .u64 (lb 1 x)) (.int .u64 (lb 2 x)) (.int .u64 (lb 3 x)) := Row5.keep hb (by repeat (first | (with_reducible exact X5) | (with_reducible refine Row5.alloc ?_ _) | (with_reducible refine Row5.drew ?_)))
  have R6 : Row5 w6 (w.heap.size + 1) (.bool false) (.int .u64 0) (.int .u64 0) (.int .u64 0) (.int .u64 0) := Row5.keep hb (by repeat (first | (with_reducible exact R5) | (with_reducible refine Row5.alloc ?_ _) | (with_reducible refine Row5.drew ?_)))
  clear X5 R5
  clear BW5
  clear hb
  obtain ⟨Xc0, Xc1, Xc2, Xc3, Xc4⟩ := X6.parts
  obtain ⟨Xf0, Xf1, Xf2, Xf3, Xf4⟩ := X6.free
  go_wp2_with fail
  refine (KW.out _ _ (DR.keep (by repeat (first | (with_reducible exact Below.refl _ _) | (with_reducible refine bal ?_ _) | (with_reducible refine Below.drew ?_) | (with_reducible refine bdn ?_ _))) DL6)).mono ?_
  rintro e w7 ⟨rfl, hb⟩
  have hbX : Below w6.heap.size w6 w7 := btr (by repeat (first | (with_reducible exact Below.refl _ _) | (with_reducible refine bal ?_ _) | (with_reducible refine Below.drew ?_) | (with_reducible refine bdn ?_ _))) hb
  have DX7 : DR w7 s1 x := DR.keep hbX DX6
  have DP7 : DR w7 s2 (2 ^ 53) := DR.keep hbX DP6
  have DL7 : DR w7 s3 9007199254740993 := DR.keep hbX DL6
  clear DX6 DP6 DL6
  clear hbX
  have BW7 : Below w.heap.size w w7 := btr (by repeat (first | (with_reducible exact BW6) | (with_reducible refine bal ?_ _) | (with_reducible refine Below.drew ?_) | (with_reducible refine bdn ?_ _))) hb
  have X7 : Row5 w7 w.heap.size (.bool true) (.int .u64 (lb 0 x)) (.int .u64 (lb 1 x)) (.int .u64 (lb 2 x)) (.int .u64 (lb 3 x)) := Row5.keep hb (by repeat (first | (with_reducible exact X6) | (with_reducible refine Row5.alloc ?_ _) | (with_reducible refine Row5.drew ?_)))
  have R7 : Row5 w7 (w.heap.size + 1) (.bool false) (.int .u64 0) (.int .u64 0) (.int .u64 0) (.int .u64 0) := Row5.keep hb (by repeat (first | (with_reducible exact R6) | (with_reducible refine Row5.alloc ?_ _) | (with_reducible refine Row5.drew ?_)))
  clear X6 R6
  clear BW6
  clear hb
  obtain ⟨Rc0, Rc1, Rc2, Rc3, Rc4⟩ := R7.parts
  obtain ⟨Rf0, Rf1, Rf2, Rf3, Rf4⟩ := R7.free
  have lt_R := R7.lt
  go_wp2
  exact bodyPost_ret (v := .tuple #[.agg #[.bool h, .int .u64 y0, .int .u64 y1, .int .u64 y2, .int .u64 y3], .bool b]) (by simp [results, Tryz.results24, go_sem, Rc0, Rc1, Rc2, Rc3, Rc4]) rfl ⟨rfl, by repeat (first | (with_reducible exact BW7) | (with_reducible refine bal ?_ _) | (with_reducible refine Below.drew ?_) | (with_reducible refine bdn ?_ _) | ((with_reducible refine bsc ?_ ?_ _); rotate_left; (focus (simp only []; omega))))⟩
set_option maxHeartbeats 4000000 in
set_option maxRecDepth 100000 in
theorem rnear_grow_true (x : Nat) (hx : x < 2 ^ 256) (h : Bool) (y0 y1 y2 y3 : Int) (b : Bool) (L : Nat) (hL : 53 < (L : Int)) (w : World)
    (k1 : ∀ W, Calls Tryz.prog 30 #[I5 true x] W fun e w' => e = .returned (.bool true) ∧ Below W.heap.size W w')
    (k2 : ∀ W, Calls Tryz.prog 9 #[I5 true x] W fun e w' => e = .returned (.bool true) ∧ Below W.heap.size W w')
    (k3 : ∀ s' W, DR W s' x → Calls Tryz.prog 31 #[s'] W fun e w' => e = .returned (.int .i64 (L : Int)) ∧ Below W.heap.size W w')
    (kw : ∀ s' W, DR W s' (x + 1) → Calls Tryz.prog 51 #[.bool true, s'] W fun e w' => e = .returned (.tuple #[.agg #[.bool h, .int .u64 y0, .int .u64 y1, .int .u64 y2, .int .u64 y3], .bool b]) ∧ Below W.heap.size W w')
    (ko : ∀ W, Calls Tryz.prog 53 #[.agg #[.bool h, .int .u64 y0, .int .u64 y1, .int .u64 y2, .int .u64 y3], .bool b, .bool false] W fun e w' => e = .returned (.tuple #[.agg #[.bool h, .int .u64 y0, .int .u64 y1, .int .u64 y2, .int .u64 y3], .bool b]) ∧ Below W.heap.size W w') :
    Calls Tryz.prog 24 #[I5 true x, .bool false, .bool false] w fun e w' => e = .returned (.tuple #[.agg #[.bool h, .int .u64 y0, .int .u64 y1, .int .u64 y2, .int .u64 y3], .bool b]) ∧ Below w.heap.size w w' := by
  unfold I5 at *
  have HX := Lib.hid hx; have K1 := Lib.hid k1; have K2 := Lib.hid k2; have K3 := Lib.hid k3; have KW := Lib.hid kw; have KO := Lib.hid ko; clear hx k1 k2 k3 kw ko
  have L1 := Lib.hid (digs_eight HX.out); have L2 := Lib.hid (digs_eight (show 1 < 2 ^ 256 by decide)); have L3 := Lib.hid (digs_eight (show 2 ^ 53 < 2 ^ 256 by decide))
  go_enter Tryz.func24, Tryz.ntmps24
  go_wp2_with fail
  refine (K1.out _).mono ?_
  rintro e w1 ⟨rfl, hb⟩
  have BW1 : Below w.heap.size w w1 := btr (by repeat (first | (with_reducible exact Below.refl _ _) | (with_reducible refine bal ?_ _) | (with_reducible refine Below.drew ?_) | (with_reducible refine bdn ?_ _))) hb
  have X1 : Row5 w1 w.heap.size (.bool true) (.int .u64 (lb 0 x)) (.int .u64 (lb 1 x)) (.int .u64 (lb 2 x)) (.int .u64 (lb 3 x)) := Row5.keep hb (by repeat (first | (with_reducible exact Row5.new _ _ _ _ _ _) | ((with_reducible refine Row5.new' _ ?_ _ _ _ _ _); (simp; done)) | (with_reducible refine Row5.alloc ?_ _) | (with_reducible refine Row5.drew ?_)))
  have R1 : Row5 w1 (w.heap.size + 1) (.bool false) (.int .u64 0) (.int .u64 0) (.int .u64 0) (.int .u64 0) := Row5.keep hb (by repeat (first | (with_reducible exact Row5.new _ _ _ _ _ _) | ((with_reducible refine Row5.new' _ ?_ _ _ _ _ _); (simp; done)) | (with_reducible refine Row5.alloc ?_ _) | (with_reducible refine Row5.drew ?_)))
  clear hb
  obtain ⟨Xc0, Xc1, Xc2, Xc3, Xc4⟩ := X1.parts
  obtain ⟨Xf0, Xf1, Xf2, Xf3, Xf4⟩ := X1.free
  go_wp2_with fail
  refine (K2.out _).mono ?_
  rintro e w2 ⟨rfl, hb⟩
  have BW2 : Below w.heap.size w w2 := btr (by repeat (first | (with_reducible exact BW1) | (with_reducible refine bal ?_ _) | (with_reducible refine Below.drew ?_) | (with_reducible refine bdn ?_ _))) hb
  have X2 : Row5 w2 w.heap.size (.bool true) (.int .u64 (lb 0 x)) (.int .u64 (lb 1 x)) (.int .u64 (lb 2 x)) (.int .u64 (lb 3 x)) := Row5.keep hb (by repeat (first | (with_reducible exact X1) | (with_reducible refine Row5.alloc ?_ _) | (with_reducible refine Row5.drew ?_)))
  have R2 : Row5 w2 (w.heap.size + 1) (.bool false) (.int .u64 0) (.int .u64 0) (.int .u64 0) (.int .u64 0) := Row5.keep hb (by repeat (first | (with_reducible exact R1) | (with_reducible refine Row5.alloc ?_ _) | (with_reducible refine Row5.drew ?_)))
  clear X1 R1
  clear BW1
  clear hb
  obtain ⟨Xc0, Xc1, Xc2, Xc3, Xc4⟩ := X2.parts
  obtain ⟨Xf0, Xf1, Xf2, Xf3, Xf4⟩ := X2.free
  go_wp2_with fail
  refine (rof x HX.out _).mono ?_
  rintro e w3 ⟨s1, rfl, hr, hb⟩
  have hbX : Below w2.heap.size w2 w3 := btr (by repeat (first | (with_reducible exact Below.refl _ _) | (with_reducible refine bal ?_ _) | (with_reducible refine Below.drew ?_) | (with_reducible refine bdn ?_ _))) hb
  clear hbX
  have DX3 : DR w3 s1 x := hr
  clear hr
  have BW3 : Below w.heap.size w w3 := btr (by repeat (first | (with_reducible exact BW2) | (with_reducible refine bal ?_ _) | (with_reducible refine Below.drew ?_) | (with_reducible refine bdn ?_ _))) hb
  have X3 : Row5 w3 w.heap.size (.bool true) (.int .u64 (lb 0 x)) (.int .u64 (lb 1 x)) (.int .u64 (lb 2 x)) (.int .u64 (lb 3 x)) := Row5.keep hb (by repeat (first | (with_reducible exact X2) | (with_reducible refine Row5.alloc ?_ _) | (with_reducible refine Row5.drew ?_)))
  have R3 : Row5 w3 (w.heap.size + 1) (.bool false) (.int .u64 0) (.int .u64 0) (.int .u64 0) (.int .u64 0) := Row5.keep hb (by repeat (first | (with_reducible exact R2) | (with_reducible refine Row5.alloc ?_ _) | (with_reducible refine Row5.drew ?_)))
  clear X2 R2
  clear BW2
  clear hb
  obtain ⟨Xc0, Xc1, Xc2, Xc3, Xc4⟩ := X3.parts
  obtain ⟨Xf0, Xf1, Xf2, Xf3, Xf4⟩ := X3.free
  go_wp2_with fail
  refine ((rpow_53 _)).mono ?_
  rintro e w4 ⟨s2, rfl, hr, hb⟩
  have hbX : Below w3.heap.size w3 w4 := btr (by repeat (first | (with_reducible exact Below.refl _ _) | (with_reducible refine bal ?_ _) | (with_reducible refine Below.drew ?_) | (with_reducible refine bdn ?_ _))) hb
  have DX4 : DR w4 s1 x := DR.keep hbX DX3
  clear DX3
  clear hbX
  have DP4 : DR w4 s2 (2 ^ 53) := hr
  clear hr
  have BW4 : Below w.heap.size w w4 := btr (by repeat (first | (with_reducible exact BW3) | (with_reducible refine bal ?_ _) | (with_reducible refine Below.drew ?_) | (with_reducible refine bdn ?_ _))) hb
  have X4 : Row5 w4 w.heap.size (.bool true) (.int .u64 (lb 0 x)) (.int .u64 (lb 1 x)) (.int .u64 (lb 2 x)) (.int .u64 (lb 3 x)) := Row5.keep hb (by repeat (first | (with_reducible exact X3) | (with_reducible refine Row5.alloc ?_ _) | (with_reducible refine Row5.drew ?_)))
  have R4 : Row5 w4 (w.heap.size + 1) (.bool false) (.int .u64 0) (.int .u64 0) (.int .u64 0) (.int .u64 0) := Row5.keep hb (by repeat (first | (with_reducible exact R3) | (with_reducible refine Row5.alloc ?_ _) | (with_reducible refine Row5.drew ?_)))
  clear X3 R3
  clear BW3
  clear hb
  go_wp2_with fail
  refine (radd_least (DR.keep (by repeat (first | (with_reducible exact Below.refl _ _) | (with_reducible refine bal ?_ _) | (with_reducible refine Below.drew ?_) | (with_reducible refine bdn ?_ _))) DP4) (DR.keep (by repeat (first | (with_reducible exact Below.refl _ _) | (with_reducible refine bal ?_ _) | (with_reducible refine Below.drew ?_) | (with_reducible refine bdn ?_ _))) (ten_new w4 1 (by decide) (by decide) 1 rfl)) L3.out L2.out).mono ?_
  rintro e w5 ⟨s3, rfl, hr, hb⟩
  have hbX : Below w4.heap.size w4 w5 := btr (by repeat (first | (with_reducible exact Below.refl _ _) | (with_reducible refine bal ?_ _) | (with_reducible refine Below.drew ?_) | (with_reducible refine bdn ?_ _))) hb
  have DX5 : DR w5 s1 x := DR.keep hbX DX4
  have DP5 : DR w5 s2 (2 ^ 53) := DR.keep hbX DP4
  clear DX4 DP4
  clear hbX
  have DL5 : DR w5 s3 9007199254740993 := hr
  clear hr
  have BW5 : Below w.heap.size w w5 := btr (by repeat (first | (with_reducible exact BW4) | (with_reducible refine bal ?_ _) | (with_reducible refine Below.drew ?_) | (with_reducible refine bdn ?_ _))) hb
  have X5 : Row5 w5 w.heap.size (.bool true) (.int .u64 (lb 0 x)) (.int .u64 (lb 1 x)) (.int .u64 (lb 2 x)) (.int .u64 (lb 3 x)) := Row5.keep hb (by repeat (first | (with_reducible exact X4) | (with_reducible refine Row5.alloc ?_ _) | (with_reducible refine Row5.drew ?_)))
  have R5 : Row5 w5 (w.heap.size + 1) (.bool false) (.int .u64 0) (.int .u64 0) (.int .u64 0) (.int .u64 0) := Row5.keep hb (by repeat (first | (with_reducible exact R4) | (with_reducible refine Row5.alloc ?_ _) | (with_reducible refine Row5.drew ?_)))
  clear X4 R4
  clear BW4
  clear hb
  go_wp2_with fail
  refine (K3.out _ _ (DR.keep (by repeat (first | (with_reducible exact Below.refl _ _) | (with_reducible refine bal ?_ _) | (with_reducible refine Below.drew ?_) | (with_reducible refine bdn ?_ _))) DX5)).mono ?_
  rintro e w6 ⟨rfl, hb⟩
  have hbX : Below w5.heap.size w5 w6 := btr (by repeat (first | (with_reducible exact Below.refl _ _) | (with_reducible refine bal ?_ _) | (with_reducible refine Below.drew ?_) | (with_reducible refine bdn ?_ _))) hb
  have DX6 : DR w6 s1 x := DR.keep hbX DX5
  have DP6 : DR w6 s2 (2 ^ 53) := DR.keep hbX DP5
  have DL6 : DR w6 s3 9007199254740993 := DR.keep hbX DL5
  clear DX5 DP5 DL5
  clear hbX
  have BW6 : Below w.heap.size w w6 := btr (by repeat (first | (with_reducible exact BW5) | (with_reducible refine bal ?_ _) | (with_reducible refine Below.drew ?_) | (with_reducible refine bdn ?_ _))) hb
  have X6 : Row5 w6 w.heap.size (.bool true) (.int .u64 (lb 0 x)) (.int .u64 (lb 1 x)) (.int .u64 (lb 2 x)) (.int .u64 (lb 3 x)) := Row5.keep hb (by repeat (first | (with_reducible exact X5) | (with_reducible refine Row5.alloc ?_ _) | (with_reducible refine Row5.drew ?_)))
  have R6 : Row5 w6 (w.heap.size + 1) (.bool false) (.int .u64 0) (.int .u64 0) (.int .u64 0) (.int .u64 0) := Row5.keep hb (by repeat (first | (with_reducible exact R5) | (with_reducible refine Row5.alloc ?_ _) | (with_reducible refine Row5.drew ?_)))
  clear X5 R5
  clear BW5
  clear hb
  obtain ⟨Xc0, Xc1, Xc2, Xc3, Xc4⟩ := X6.parts
  obtain ⟨Xf0, Xf1, Xf2, Xf3, Xf4⟩ := X6.free
  go_upto_region 17 with (fail)
  go_name_world w7 hw7
  have BW7 : Below w.heap.size w w7 := by rw [← hw7]; repeat (first | (with_reducible exact BW6) | (with_reducible refine bal ?_ _) | (with_reducible refine Below.drew ?_) | (with_reducible refine bdn ?_ _))
  have hbX : Below w6.heap.size w6 w7 := by rw [← hw7]; repeat (first | (with_reducible exact Below.refl _ _) | (with_reducible refine bal ?_ _) | (with_reducible refine Below.drew ?_) | (with_reducible refine bdn ?_ _))
  have DX7 : DR w7 s1 x := DR.keep hbX DX6
  have DP7 : DR w7 s2 (2 ^ 53) := DR.keep hbX DP6
  have DL7 : DR w7 s3 9007199254740993 := DR.keep hbX DL6
  clear hbX DX6 DP6 DL6
  have X7 : Row5 w7 w.heap.size (.bool true) (.int .u64 (lb 0 x)) (.int .u64 (lb 1 x)) (.int .u64 (lb 2 x)) (.int .u64 (lb 3 x)) := by rw [← hw7]; exact (by repeat (first | (with_reducible exact X6) | (with_reducible refine Row5.alloc ?_ _) | (with_reducible refine Row5.drew ?_)))
  have R7 : Row5 w7 (w.heap.size + 1) (.bool false) (.int .u64 0) (.int .u64 0) (.int .u64 0) (.int .u64 0) := by rw [← hw7]; exact (by repeat (first | (with_reducible exact R6) | (with_reducible refine Row5.alloc ?_ _) | (with_reducible refine Row5.drew ?_)))
  clear X6 R6
  clear BW6
  clear hw7
  have lt_X := X7.lt
  have lt_R := R7.lt
  go_cut [13, 14] (fun s13 s14 wx => ∃ p : Nat, s13 = .pointer (some ⟨p, 0, none⟩) ∧ s14 = .bool b ∧ Row5 wx p (.bool h) (.int .u64 y0) (.int .u64 y1) (.int .u64 y2) (.int .u64 y3) ∧ w7.heap.size ≤ p ∧ Below w7.heap.size w7 wx)
  case first =>
    go_region_held3 (fun w' => w'.cell? ⟨w.heap.size, 0, none⟩ = some (.bool true) ∧ w'.cell? ⟨w.heap.size, 1, none⟩ = some (.int .u64 (lb 0 x)) ∧ w'.cell? ⟨w.heap.size, 2, none⟩ = some (.int .u64 (lb 1 x)) ∧ w'.cell? ⟨w.heap.size, 3, none⟩ = some (.int .u64 (lb 2 x)) ∧ w'.cell? ⟨w.heap.size, 4, none⟩ = some (.int .u64 (lb 3 x)))
      ((refine Row5.parts ?_; (repeat (first | (with_reducible assumption) | (with_reducible refine Row5.alloc ?_ _) | (with_reducible refine Row5.drew ?_) | ((with_reducible refine Row5.set ?_ ?_ _); rotate_left; (focus (omega))))); done))
      (first | (go_at_call 50; (with_reducible refine (radd (DR.keep (by repeat (first | (with_reducible exact Below.refl _ _) | (with_reducible refine bal ?_ _) | (with_reducible refine Below.drew ?_) | (with_reducible refine bdn ?_ _))) DX7) (DR.keep (by repeat (first | (with_reducible exact Below.refl _ _) | (with_reducible refine bal ?_ _) | (with_reducible refine Below.drew ?_) | (with_reducible refine bdn ?_ _))) (ten_at _ _ 1 1 (by first | rfl | (simp; done)) (by decide) (by decide) rfl)) L1.out L2.out).mono ?_); rintro e wf1 ⟨sa, rfl, hra, hb1⟩; have Xf1 : Row5 wf1 w.heap.size (.bool true) (.int .u64 (lb 0 x)) (.int .u64 (lb 1 x)) (.int .u64 (lb 2 x)) (.int .u64 (lb 3 x)) := Row5.keep hb1 (by repeat (first | (with_reducible assumption) | (with_reducible refine Row5.alloc ?_ _) | (with_reducible refine Row5.drew ?_))); have ltXf1 := Xf1.lt; (first | (refine absorb (P := Row5 wf1 w7.heap.size (.bool false) (.int .u64 0) (.int .u64 0) (.int .u64 0) (.int .u64 0)) (Row5.keep hb1 ?_) (fun Z1 => ?_); (focus ((repeat (first | ((with_reducible refine Row5.new' _ ?_ _ _ _ _ _); (simp; done)) | (with_reducible refine Row5.alloc ?_ _) | (with_reducible refine Row5.drew ?_))); done))) | (refine absorb (P := Row5 wf1 (w7.heap.size + 1) (.bool false) (.int .u64 0) (.int .u64 0) (.int .u64 0) (.int .u64 0)) (Row5.keep hb1 ?_) (fun Z1 => ?_); (focus ((repeat (first | ((with_reducible refine Row5.new' _ ?_ _ _ _ _ _); (simp; done)) | (with_reducible refine Row5.alloc ?_ _) | (with_reducible refine Row5.drew ?_))); done))) | skip); (first | (obtain ⟨zc0, zc1, zc2, zc3, zc4⟩ := Z1.parts; obtain ⟨zf0, zf1, zf2, zf3, zf4⟩ := Z1.free) | skip)) | (go_at_call 51; (with_reducible refine (KW.out _ _ (DR.keep (by repeat (first | (with_reducible exact Below.refl _ _) | (with_reducible refine bal ?_ _) | (with_reducible refine Below.drew ?_) | (with_reducible refine bdn ?_ _))) hra)).mono ?_); rintro e wf2 ⟨rfl, hb2⟩; have Xf2 : Row5 wf2 w.heap.size (.bool true) (.int .u64 (lb 0 x)) (.int .u64 (lb 1 x)) (.int .u64 (lb 2 x)) (.int .u64 (lb 3 x)) := Row5.keep hb2 (by repeat (first | (with_reducible assumption) | (with_reducible refine Row5.alloc ?_ _) | (with_reducible refine Row5.drew ?_))); have ltXf2 := Xf2.lt; (first | (refine absorb (P := Row5 wf2 w7.heap.size (.bool false) (.int .u64 0) (.int .u64 0) (.int .u64 0) (.int .u64 0)) (Row5.keep hb2 ?_) (fun Z2 => ?_); (focus ((repeat (first | (with_reducible exact Z1) | (with_reducible refine Row5.alloc ?_ _) | (with_reducible refine Row5.drew ?_))); done))) | (refine absorb (P := Row5 wf2 (w7.heap.size + 1) (.bool false) (.int .u64 0) (.int .u64 0) (.int .u64 0) (.int .u64 0)) (Row5.keep hb2 ?_) (fun Z2 => ?_); (focus ((repeat (first | (with_reducible exact Z1) | (with_reducible refine Row5.alloc ?_ _) | (with_reducible refine Row5.drew ?_))); done))) | (refine absorb (P := Row5 wf2 wf1.heap.size (.bool false) (.int .u64 0) (.int .u64 0) (.int .u64 0) (.int .u64 0)) (Row5.keep hb2 ?_) (fun Z2 => ?_); (focus ((repeat (first | ((with_reducible refine Row5.new' _ ?_ _ _ _ _ _); (simp; done)) | (with_reducible refine Row5.alloc ?_ _) | (with_reducible refine Row5.drew ?_))); done))) | skip); (first | (obtain ⟨zc0, zc1, zc2, zc3, zc4⟩ := Z2.parts; obtain ⟨zf0, zf1, zf2, zf3, zf4⟩ := Z2.free) | skip)))
    all_goals
      have BB1 : Below w7.heap.size w7 wf1 := btr (by repeat (first | (with_reducible exact Below.refl _ _) | (with_reducible refine bal ?_ _) | (with_reducible refine Below.drew ?_) | (with_reducible refine bdn ?_ _))) hb1
      have BB2 : Below w7.heap.size w7 wf2 := btr (by repeat (first | (with_reducible exact BB1) | (with_reducible refine bal ?_ _) | (with_reducible refine Below.drew ?_) | (with_reducible refine bdn ?_ _))) hb2
      have hs := BB2.size
      have hs1 := BB1.size
      go_wp2_with fail
      go_meet
      first
        | with_reducible exact ⟨_, rfl, rfl, Row5.new _ _ _ _ _ _, hs, bal BB2 _⟩
        | with_reducible exact ⟨_, rfl, rfl, Row5.set5 Z2 _ _ _ _ _, by omega, bsc5 BB2 (by omega) _ _ _ _ _⟩
        | with_reducible exact ⟨_, rfl, rfl, Row5.set5 Z2 _ _ _ _ _, by omega, bsc5 BB2 (by omega) _ _ _ _ _⟩
  case rest =>
    obtain ⟨pO, rfl, rfl, Oq, hpO, hBO⟩ := hcut
    have hb := hBO
    generalize wc = w8 at *
    have BW8 : Below w.heap.size w w8 := btr BW7 hb
    have X8 : Row5 w8 w.heap.size (.bool true) (.int .u64 (lb 0 x)) (.int .u64 (lb 1 x)) (.int .u64 (lb 2 x)) (.int .u64 (lb 3 x)) := Row5.keep hb X7
    have R8 : Row5 w8 (w.heap.size + 1) (.bool false) (.int .u64 0) (.int .u64 0) (.int .u64 0) (.int .u64 0) := Row5.keep hb R7
    have O8 : Row5 w8 pO (.bool h) (.int .u64 y0) (.int .u64 y1) (.int .u64 y2) (.int .u64 y3) := Oq
    clear X7 R7 BW7 hb hBO Oq
    obtain ⟨Oc0, Oc1, Oc2, Oc3, Oc4⟩ := O8.parts
    obtain ⟨Of0, Of1, Of2, Of3, Of4⟩ := O8.free
    go_wp2_with fail
    refine (KO.out _).mono ?_
    rintro e w9 ⟨rfl, hb⟩
    have BW9 : Below w.heap.size w w9 := btr (by repeat (first | (with_reducible exact BW8) | (with_reducible refine bal ?_ _) | (with_reducible refine Below.drew ?_) | (with_reducible refine bdn ?_ _))) hb
    have X9 : Row5 w9 w.heap.size (.bool true) (.int .u64 (lb 0 x)) (.int .u64 (lb 1 x)) (.int .u64 (lb 2 x)) (.int .u64 (lb 3 x)) := Row5.keep hb (by repeat (first | (with_reducible exact X8) | (with_reducible refine Row5.alloc ?_ _) | (with_reducible refine Row5.drew ?_)))
    have R9 : Row5 w9 (w.heap.size + 1) (.bool false) (.int .u64 0) (.int .u64 0) (.int .u64 0) (.int .u64 0) := Row5.keep hb (by repeat (first | (with_reducible exact R8) | (with_reducible refine Row5.alloc ?_ _) | (with_reducible refine Row5.drew ?_)))
    have O9 : Row5 w9 pO (.bool h) (.int .u64 y0) (.int .u64 y1) (.int .u64 y2) (.int .u64 y3) := Row5.keep hb (by repeat (first | (with_reducible exact O8) | (with_reducible refine Row5.alloc ?_ _) | (with_reducible refine Row5.drew ?_)))
    clear X8 R8 O8
    clear BW8
    clear hb
    obtain ⟨Rc0, Rc1, Rc2, Rc3, Rc4⟩ := R9.parts
    obtain ⟨Rf0, Rf1, Rf2, Rf3, Rf4⟩ := R9.free
    have lt_R := R9.lt
    go_wp2
    exact bodyPost_ret (v := .tuple #[.agg #[.bool h, .int .u64 y0, .int .u64 y1, .int .u64 y2, .int .u64 y3], .bool b]) (by simp [results, Tryz.results24, go_sem, Rc0, Rc1, Rc2, Rc3, Rc4]) rfl ⟨rfl, by repeat (first | (with_reducible exact BW9) | (with_reducible refine bal ?_ _) | (with_reducible refine Below.drew ?_) | (with_reducible refine bdn ?_ _) | ((with_reducible refine bsc ?_ ?_ _); rotate_left; (focus (simp only []; omega))))⟩
set_option maxHeartbeats 4000000 in
set_option maxRecDepth 100000 in
theorem rnear_turn_true (x : Nat) (hx : x < 2 ^ 256) (h : Bool) (y0 y1 y2 y3 : Int) (b : Bool) (c : Int) (hc : rcv x 9007199254740993 = c) (hc0 : c < 0) (w : World)
    (k1 : ∀ W, Calls Tryz.prog 30 #[I5 true x] W fun e w' => e = .returned (.bool true) ∧ Below W.heap.size W w')
    (k2 : ∀ W, Calls Tryz.prog 9 #[I5 true x] W fun e w' => e = .returned (.bool true) ∧ Below W.heap.size W w')
    (kw : ∀ s' W, DR W s' 9007199254740993 → Calls Tryz.prog 51 #[.bool false, s'] W fun e w' => e = .returned (.tuple #[.agg #[.bool h, .int .u64 y0, .int .u64 y1, .int .u64 y2, .int .u64 y3], .bool b]) ∧ Below W.heap.size W w') :
    Calls Tryz.prog 24 #[I5 true x, .bool true, .bool false] w fun e w' => e = .returned (.tuple #[.agg #[.bool h, .int .u64 y0, .int .u64 y1, .int .u64 y2, .int .u64 y3], .bool b]) ∧ Below w.heap.size w w' := by
  unfold I5 at *
  have HX := Lib.hid hx; have K1 := Lib.hid k1; have K2 := Lib.hid k2; have KW := Lib.hid kw; clear hx k1 k2 kw
  have HC := Lib.hid hc; clear hc
  have L1 := Lib.hid (digs_eight HX.out); have L2 := Lib.hid (digs_eight (show 1 < 2 ^ 256 by decide)); have L3 := Lib.hid (digs_eight (show 2 ^ 53 < 2 ^ 256 by decide))
  go_enter Tryz.func24, Tryz.ntmps24
  go_wp2_with fail
  refine (K1.out _).mono ?_
  rintro e w1 ⟨rfl, hb⟩
  have BW1 : Below w.heap.size w w1 := btr (by repeat (first | (with_reducible exact Below.refl _ _) | (with_reducible refine bal ?_ _) | (with_reducible refine Below.drew ?_) | (with_reducible refine bdn ?_ _))) hb
  have X1 : Row5 w1 w.heap.size (.bool true) (.int .u64 (lb 0 x)) (.int .u64 (lb 1 x)) (.int .u64 (lb 2 x)) (.int .u64 (lb 3 x)) := Row5.keep hb (by repeat (first | (with_reducible exact Row5.new _ _ _ _ _ _) | ((with_reducible refine Row5.new' _ ?_ _ _ _ _ _); (simp; done)) | (with_reducible refine Row5.alloc ?_ _) | (with_reducible refine Row5.drew ?_)))
  have R1 : Row5 w1 (w.heap.size + 1) (.bool false) (.int .u64 0) (.int .u64 0) (.int .u64 0) (.int .u64 0) := Row5.keep hb (by repeat (first | (with_reducible exact Row5.new _ _ _ _ _ _) | ((with_reducible refine Row5.new' _ ?_ _ _ _ _ _); (simp; done)) | (with_reducible refine Row5.alloc ?_ _) | (with_reducible refine Row5.drew ?_)))
  clear hb
  obtain ⟨Xc0, Xc1, Xc2, Xc3, Xc4⟩ := X1.parts
  obtain ⟨Xf0, Xf1, Xf2, Xf3, Xf4⟩ := X1.free
  go_wp2_with fail
  refine (K2.out _).mono ?_
  rintro e w2 ⟨rfl, hb⟩
  have BW2 : Below w.heap.size w w2 := btr (by repeat (first | (with_reducible exact BW1) | (with_reducible refine bal ?_ _) | (with_reducible refine Below.drew ?_) | (with_reducible refine bdn ?_ _))) hb
  have X2 : Row5 w2 w.heap.size (.bool true) (.int .u64 (lb 0 x)) (.int .u64 (lb 1 x)) (.int .u64 (lb 2 x)) (.int .u64 (lb 3 x)) := Row5.keep hb (by repeat (first | (with_reducible exact X1) | (with_reducible refine Row5.alloc ?_ _) | (with_reducible refine Row5.drew ?_)))
  have R2 : Row5 w2 (w.heap.size + 1) (.bool false) (.int .u64 0) (.int .u64 0) (.int .u64 0) (.int .u64 0) := Row5.keep hb (by repeat (first | (with_reducible exact R1) | (with_reducible refine Row5.alloc ?_ _) | (with_reducible refine Row5.drew ?_)))
  clear X1 R1
  clear BW1
  clear hb
  obtain ⟨Xc0, Xc1, Xc2, Xc3, Xc4⟩ := X2.parts
  obtain ⟨Xf0, Xf1, Xf2, Xf3, Xf4⟩ := X2.free
  go_wp2_with fail
  refine (rof x HX.out _).mono ?_
  rintro e w3 ⟨s1, rfl, hr, hb⟩
  have hbX : Below w2.heap.size w2 w3 := btr (by repeat (first | (with_reducible exact Below.refl _ _) | (with_reducible refine bal ?_ _) | (with_reducible refine Below.drew ?_) | (with_reducible refine bdn ?_ _))) hb
  clear hbX
  have DX3 : DR w3 s1 x := hr
  clear hr
  have BW3 : Below w.heap.size w w3 := btr (by repeat (first | (with_reducible exact BW2) | (with_reducible refine bal ?_ _) | (with_reducible refine Below.drew ?_) | (with_reducible refine bdn ?_ _))) hb
  have X3 : Row5 w3 w.heap.size (.bool true) (.int .u64 (lb 0 x)) (.int .u64 (lb 1 x)) (.int .u64 (lb 2 x)) (.int .u64 (lb 3 x)) := Row5.keep hb (by repeat (first | (with_reducible exact X2) | (with_reducible refine Row5.alloc ?_ _) | (with_reducible refine Row5.drew ?_)))
  have R3 : Row5 w3 (w.heap.size + 1) (.bool false) (.int .u64 0) (.int .u64 0) (.int .u64 0) (.int .u64 0) := Row5.keep hb (by repeat (first | (with_reducible exact R2) | (with_reducible refine Row5.alloc ?_ _) | (with_reducible refine Row5.drew ?_)))
  clear X2 R2
  clear BW2
  clear hb
  obtain ⟨Xc0, Xc1, Xc2, Xc3, Xc4⟩ := X3.parts
  obtain ⟨Xf0, Xf1, Xf2, Xf3, Xf4⟩ := X3.free
  go_wp2_with fail
  refine ((rpow_53 _)).mono ?_
  rintro e w4 ⟨s2, rfl, hr, hb⟩
  have hbX : Below w3.heap.size w3 w4 := btr (by repeat (first | (with_reducible exact Below.refl _ _) | (with_reducible refine bal ?_ _) | (with_reducible refine Below.drew ?_) | (with_reducible refine bdn ?_ _))) hb
  have DX4 : DR w4 s1 x := DR.keep hbX DX3
  clear DX3
  clear hbX
  have DP4 : DR w4 s2 (2 ^ 53) := hr
  clear hr
  have BW4 : Below w.heap.size w w4 := btr (by repeat (first | (with_reducible exact BW3) | (with_reducible refine bal ?_ _) | (with_reducible refine Below.drew ?_) | (with_reducible refine bdn ?_ _))) hb
  have X4 : Row5 w4 w.heap.size (.bool true) (.int .u64 (lb 0 x)) (.int .u64 (lb 1 x)) (.int .u64 (lb 2 x)) (.int .u64 (lb 3 x)) := Row5.keep hb (by repeat (first | (with_reducible exact X3) | (with_reducible refine Row5.alloc ?_ _) | (with_reducible refine Row5.drew ?_)))
  have R4 : Row5 w4 (w.heap.size + 1) (.bool false) (.int .u64 0) (.int .u64 0) (.int .u64 0) (.int .u64 0) := Row5.keep hb (by repeat (first | (with_reducible exact R3) | (with_reducible refine Row5.alloc ?_ _) | (with_reducible refine Row5.drew ?_)))
  clear X3 R3
  clear BW3
  clear hb
  go_wp2_with fail
  refine (radd_least (DR.keep (by repeat (first | (with_reducible exact Below.refl _ _) | (with_reducible refine bal ?_ _) | (with_reducible refine Below.drew ?_) | (with_reducible refine bdn ?_ _))) DP4) (DR.keep (by repeat (first | (with_reducible exact Below.refl _ _) | (with_reducible refine bal ?_ _) | (with_reducible refine Below.drew ?_) | (with_reducible refine bdn ?_ _))) (ten_new w4 1 (by decide) (by decide) 1 rfl)) L3.out L2.out).mono ?_
  rintro e w5 ⟨s3, rfl, hr, hb⟩
  have hbX : Below w4.heap.size w4 w5 := btr (by repeat (first | (with_reducible exact Below.refl _ _) | (with_reducible refine bal ?_ _) | (with_reducible refine Below.drew ?_) | (with_reducible refine bdn ?_ _))) hb
  have DX5 : DR w5 s1 x := DR.keep hbX DX4
  have DP5 : DR w5 s2 (2 ^ 53) := DR.keep hbX DP4
  clear DX4 DP4
  clear hbX
  have DL5 : DR w5 s3 9007199254740993 := hr
  clear hr
  have BW5 : Below w.heap.size w w5 := btr (by repeat (first | (with_reducible exact BW4) | (with_reducible refine bal ?_ _) | (with_reducible refine Below.drew ?_) | (with_reducible refine bdn ?_ _))) hb
  have X5 : Row5 w5 w.heap.size (.bool true) (.int .u64 (lb 0 x)) (.int .u64 (lb 1 x)) (.int .u64 (lb 2 x)) (.int .u64 (lb 3 x)) := Row5.keep hb (by repeat (first | (with_reducible exact X4) | (with_reducible refine Row5.alloc ?_ _) | (with_reducible refine Row5.drew ?_)))
  have R5 : Row5 w5 (w.heap.size + 1) (.bool false) (.int .u64 0) (.int .u64 0) (.int .u64 0) (.int .u64 0) := Row5.keep hb (by repeat (first | (with_reducible exact R4) | (with_reducible refine Row5.alloc ?_ _) | (with_reducible refine Row5.drew ?_)))
  clear X4 R4
  clear BW4
  clear hb
  go_wp2_with fail
  refine (rcmp_is HC.out L1.out (DR.keep (by repeat (first | (with_reducible exact Below.refl _ _) | (with_reducible refine bal ?_ _) | (with_reducible refine Below.drew ?_) | (with_reducible refine bdn ?_ _))) DX5) (DR.keep (by repeat (first | (with_reducible exact Below.refl _ _) | (with_reducible refine bal ?_ _) | (with_reducible refine Below.drew ?_) | (with_reducible refine bdn ?_ _))) DL5)).mono ?_
  rintro e w6 ⟨rfl, hb⟩
  have hbX : Below w5.heap.size w5 w6 := btr (by repeat (first | (with_reducible exact Below.refl _ _) | (with_reducible refine bal ?_ _) | (with_reducible refine Below.drew ?_) | (with_reducible refine bdn ?_ _))) hb
  have DX6 : DR w6 s1 x := DR.keep hbX DX5
  have DP6 : DR w6 s2 (2 ^ 53) := DR.keep hbX DP5
  have DL6 : DR w6 s3 9007199254740993 := DR.keep hbX DL5
  clear DX5 DP5 DL5
  clear hbX
  have BW6 : Below w.heap.size w w6 := btr (by repeat (first | (with_reducible exact BW5) | (with_reducible refine bal ?_ _) | (with_reducible refine Below.drew ?_) | (with_reducible refine bdn ?_ _))) hb
  have X6 : Row5 w6 w.heap.size (.bool true) (.int .u64 (lb 0 x)) (.int .u64 (lb 1 x)) (.int .u64 (lb 2 x)) (.int .u64 (lb 3 x)) := Row5.keep hb (by repeat (first | (with_reducible exact X5) | (with_reducible refine Row5.alloc ?_ _) | (with_reducible refine Row5.drew ?_)))
  have R6 : Row5 w6 (w.heap.size + 1) (.bool false) (.int .u64 0) (.int .u64 0) (.int .u64 0) (.int .u64 0) := Row5.keep hb (by repeat (first | (with_reducible exact R5) | (with_reducible refine Row5.alloc ?_ _) | (with_reducible refine Row5.drew ?_)))
  clear X5 R5
  clear BW5
  clear hb
  obtain ⟨Xc0, Xc1, Xc2, Xc3, Xc4⟩ := X6.parts
  obtain ⟨Xf0, Xf1, Xf2, Xf3, Xf4⟩ := X6.free
  go_wp2_with fail
  refine (KW.out _ _ (DR.keep (by repeat (first | (with_reducible exact Below.refl _ _) | (with_reducible refine bal ?_ _) | (with_reducible refine Below.drew ?_) | (with_reducible refine bdn ?_ _))) DL6)).mono ?_
  rintro e w7 ⟨rfl, hb⟩
  have hbX : Below w6.heap.size w6 w7 := btr (by repeat (first | (with_reducible exact Below.refl _ _) | (with_reducible refine bal ?_ _) | (with_reducible refine Below.drew ?_) | (with_reducible refine bdn ?_ _))) hb
  have DX7 : DR w7 s1 x := DR.keep hbX DX6
  have DP7 : DR w7 s2 (2 ^ 53) := DR.keep hbX DP6
  have DL7 : DR w7 s3 9007199254740993 := DR.keep hbX DL6
  clear DX6 DP6 DL6
  clear hbX
  have BW7 : Below w.heap.size w w7 := btr (by repeat (first | (with_reducible exact BW6) | (with_reducible refine bal ?_ _) | (with_reducible refine Below.drew ?_) | (with_reducible refine bdn ?_ _))) hb
  have X7 : Row5 w7 w.heap.size (.bool true) (.int .u64 (lb 0 x)) (.int .u64 (lb 1 x)) (.int .u64 (lb 2 x)) (.int .u64 (lb 3 x)) := Row5.keep hb (by repeat (first | (with_reducible exact X6) | (with_reducible refine Row5.alloc ?_ _) | (with_reducible refine Row5.drew ?_)))
  have R7 : Row5 w7 (w.heap.size + 1) (.bool false) (.int .u64 0) (.int .u64 0) (.int .u64 0) (.int .u64 0) := Row5.keep hb (by repeat (first | (with_reducible exact R6) | (with_reducible refine Row5.alloc ?_ _) | (with_reducible refine Row5.drew ?_)))
  clear X6 R6
  clear BW6
  clear hb
  obtain ⟨Rc0, Rc1, Rc2, Rc3, Rc4⟩ := R7.parts
  obtain ⟨Rf0, Rf1, Rf2, Rf3, Rf4⟩ := R7.free
  have lt_R := R7.lt
  go_wp2
  exact bodyPost_ret (v := .tuple #[.agg #[.bool h, .int .u64 y0, .int .u64 y1, .int .u64 y2, .int .u64 y3], .bool b]) (by simp [results, Tryz.results24, go_sem, Rc0, Rc1, Rc2, Rc3, Rc4]) rfl ⟨rfl, by repeat (first | (with_reducible exact BW7) | (with_reducible refine bal ?_ _) | (with_reducible refine Below.drew ?_) | (with_reducible refine bdn ?_ _) | ((with_reducible refine bsc ?_ ?_ _); rotate_left; (focus (simp only []; omega))))⟩
set_option maxHeartbeats 4000000 in
set_option maxRecDepth 100000 in
theorem rnear_less_true (x : Nat) (hx : x < 2 ^ 256) (h : Bool) (y0 y1 y2 y3 : Int) (b : Bool) (c : Int) (hc : rcv x 9007199254740993 = c) (hc0 : 0 ≤ c) (hle : 1 ≤ x) (w : World)
    (k1 : ∀ W, Calls Tryz.prog 30 #[I5 true x] W fun e w' => e = .returned (.bool true) ∧ Below W.heap.size W w')
    (k2 : ∀ W, Calls Tryz.prog 9 #[I5 true x] W fun e w' => e = .returned (.bool true) ∧ Below W.heap.size W w')
    (kw : ∀ s' W, DR W s' (x - 1) → Calls Tryz.prog 51 #[.bool true, s'] W fun e w' => e = .returned (.tuple #[.agg #[.bool h, .int .u64 y0, .int .u64 y1, .int .u64 y2, .int .u64 y3], .bool b]) ∧ Below W.heap.size W w')
    (ko : ∀ W, Calls Tryz.prog 53 #[.agg #[.bool h, .int .u64 y0, .int .u64 y1, .int .u64 y2, .int .u64 y3], .bool b, .bool true] W fun e w' => e = .returned (.tuple #[.agg #[.bool h, .int .u64 y0, .int .u64 y1, .int .u64 y2, .int .u64 y3], .bool b]) ∧ Below W.heap.size W w') :
    Calls Tryz.prog 24 #[I5 true x, .bool true, .bool false] w fun e w' => e = .returned (.tuple #[.agg #[.bool h, .int .u64 y0, .int .u64 y1, .int .u64 y2, .int .u64 y3], .bool b]) ∧ Below w.heap.size w w' := by
  unfold I5 at *
  have HX := Lib.hid hx; have K1 := Lib.hid k1; have K2 := Lib.hid k2; have KW := Lib.hid kw; have KO := Lib.hid ko; clear hx k1 k2 kw ko
  have HC := Lib.hid hc; clear hc
  have L1 := Lib.hid (digs_eight HX.out); have L2 := Lib.hid (digs_eight (show 1 < 2 ^ 256 by decide)); have L3 := Lib.hid (digs_eight (show 2 ^ 53 < 2 ^ 256 by decide))
  go_enter Tryz.func24, Tryz.ntmps24
  go_wp2_with fail
  refine (K1.out _).mono ?_
  rintro e w1 ⟨rfl, hb⟩
  have BW1 : Below w.heap.size w w1 := btr (by repeat (first | (with_reducible exact Below.refl _ _) | (with_reducible refine bal ?_ _) | (with_reducible refine Below.drew ?_) | (with_reducible refine bdn ?_ _))) hb
  have X1 : Row5 w1 w.heap.size (.bool true) (.int .u64 (lb 0 x)) (.int .u64 (lb 1 x)) (.int .u64 (lb 2 x)) (.int .u64 (lb 3 x)) := Row5.keep hb (by repeat (first | (with_reducible exact Row5.new _ _ _ _ _ _) | ((with_reducible refine Row5.new' _ ?_ _ _ _ _ _); (simp; done)) | (with_reducible refine Row5.alloc ?_ _) | (with_reducible refine Row5.drew ?_)))
  have R1 : Row5 w1 (w.heap.size + 1) (.bool false) (.int .u64 0) (.int .u64 0) (.int .u64 0) (.int .u64 0) := Row5.keep hb (by repeat (first | (with_reducible exact Row5.new _ _ _ _ _ _) | ((with_reducible refine Row5.new' _ ?_ _ _ _ _ _); (simp; done)) | (with_reducible refine Row5.alloc ?_ _) | (with_reducible refine Row5.drew ?_)))
  clear hb
  obtain ⟨Xc0, Xc1, Xc2, Xc3, Xc4⟩ := X1.parts
  obtain ⟨Xf0, Xf1, Xf2, Xf3, Xf4⟩ := X1.free
  go_wp2_with fail
  refine (K2.out _).mono ?_
  rintro e w2 ⟨rfl, hb⟩
  have BW2 : Below w.heap.size w w2 := btr (by repeat (first | (with_reducible exact BW1) | (with_reducible refine bal ?_ _) | (with_reducible refine Below.drew ?_) | (with_reducible refine bdn ?_ _))) hb
  have X2 : Row5 w2 w.heap.size (.bool true) (.int .u64 (lb 0 x)) (.int .u64 (lb 1 x)) (.int .u64 (lb 2 x)) (.int .u64 (lb 3 x)) := Row5.keep hb (by repeat (first | (with_reducible exact X1) | (with_reducible refine Row5.alloc ?_ _) | (with_reducible refine Row5.drew ?_)))
  have R2 : Row5 w2 (w.heap.size + 1) (.bool false) (.int .u64 0) (.int .u64 0) (.int .u64 0) (.int .u64 0) := Row5.keep hb (by repeat (first | (with_reducible exact R1) | (with_reducible refine Row5.alloc ?_ _) | (with_reducible refine Row5.drew ?_)))
  clear X1 R1
  clear BW1
  clear hb
  obtain ⟨Xc0, Xc1, Xc2, Xc3, Xc4⟩ := X2.parts
  obtain ⟨Xf0, Xf1, Xf2, Xf3, Xf4⟩ := X2.free
  go_wp2_with fail
  refine (rof x HX.out _).mono ?_
  rintro e w3 ⟨s1, rfl, hr, hb⟩
  have hbX : Below w2.heap.size w2 w3 := btr (by repeat (first | (with_reducible exact Below.refl _ _) | (with_reducible refine bal ?_ _) | (with_reducible refine Below.drew ?_) | (with_reducible refine bdn ?_ _))) hb
  clear hbX
  have DX3 : DR w3 s1 x := hr
  clear hr
  have BW3 : Below w.heap.size w w3 := btr (by repeat (first | (with_reducible exact BW2) | (with_reducible refine bal ?_ _) | (with_reducible refine Below.drew ?_) | (with_reducible refine bdn ?_ _))) hb
  have X3 : Row5 w3 w.heap.size (.bool true) (.int .u64 (lb 0 x)) (.int .u64 (lb 1 x)) (.int .u64 (lb 2 x)) (.int .u64 (lb 3 x)) := Row5.keep hb (by repeat (first | (with_reducible exact X2) | (with_reducible refine Row5.alloc ?_ _) | (with_reducible refine Row5.drew ?_)))
  have R3 : Row5 w3 (w.heap.size + 1) (.bool false) (.int .u64 0) (.int .u64 0) (.int .u64 0) (.int .u64 0) := Row5.keep hb (by repeat (first | (with_reducible exact R2) | (with_reducible refine Row5.alloc ?_ _) | (with_reducible refine Row5.drew ?_)))
  clear X2 R2
  clear BW2
  clear hb
  obtain ⟨Xc0, Xc1, Xc2, Xc3, Xc4⟩ := X3.parts
  obtain ⟨Xf0, Xf1, Xf2, Xf3, Xf4⟩ := X3.free
  go_wp2_with fail
  refine ((rpow_53 _)).mono ?_
  rintro e w4 ⟨s2, rfl, hr, hb⟩
  have hbX : Below w3.heap.size w3 w4 := btr (by repeat (first | (with_reducible exact Below.refl _ _) | (with_reducible refine bal ?_ _) | (with_reducible refine Below.drew ?_) | (with_reducible refine bdn ?_ _))) hb
  have DX4 : DR w4 s1 x := DR.keep hbX DX3
  clear DX3
  clear hbX
  have DP4 : DR w4 s2 (2 ^ 53) := hr
  clear hr
  have BW4 : Below w.heap.size w w4 := btr (by repeat (first | (with_reducible exact BW3) | (with_reducible refine bal ?_ _) | (with_reducible refine Below.drew ?_) | (with_reducible refine bdn ?_ _))) hb
  have X4 : Row5 w4 w.heap.size (.bool true) (.int .u64 (lb 0 x)) (.int .u64 (lb 1 x)) (.int .u64 (lb 2 x)) (.int .u64 (lb 3 x)) := Row5.keep hb (by repeat (first | (with_reducible exact X3) | (with_reducible refine Row5.alloc ?_ _) | (with_reducible refine Row5.drew ?_)))
  have R4 : Row5 w4 (w.heap.size + 1) (.bool false) (.int .u64 0) (.int .u64 0) (.int .u64 0) (.int .u64 0) := Row5.keep hb (by repeat (first | (with_reducible exact R3) | (with_reducible refine Row5.alloc ?_ _) | (with_reducible refine Row5.drew ?_)))
  clear X3 R3
  clear BW3
  clear hb
  go_wp2_with fail
  refine (radd_least (DR.keep (by repeat (first | (with_reducible exact Below.refl _ _) | (with_reducible refine bal ?_ _) | (with_reducible refine Below.drew ?_) | (with_reducible refine bdn ?_ _))) DP4) (DR.keep (by repeat (first | (with_reducible exact Below.refl _ _) | (with_reducible refine bal ?_ _) | (with_reducible refine Below.drew ?_) | (with_reducible refine bdn ?_ _))) (ten_new w4 1 (by decide) (by decide) 1 rfl)) L3.out L2.out).mono ?_
  rintro e w5 ⟨s3, rfl, hr, hb⟩
  have hbX : Below w4.heap.size w4 w5 := btr (by repeat (first | (with_reducible exact Below.refl _ _) | (with_reducible refine bal ?_ _) | (with_reducible refine Below.drew ?_) | (with_reducible refine bdn ?_ _))) hb
  have DX5 : DR w5 s1 x := DR.keep hbX DX4
  have DP5 : DR w5 s2 (2 ^ 53) := DR.keep hbX DP4
  clear DX4 DP4
  clear hbX
  have DL5 : DR w5 s3 9007199254740993 := hr
  clear hr
  have BW5 : Below w.heap.size w w5 := btr (by repeat (first | (with_reducible exact BW4) | (with_reducible refine bal ?_ _) | (with_reducible refine Below.drew ?_) | (with_reducible refine bdn ?_ _))) hb
  have X5 : Row5 w5 w.heap.size (.bool true) (.int .u64 (lb 0 x)) (.int .u64 (lb 1 x)) (.int .u64 (lb 2 x)) (.int .u64 (lb 3 x)) := Row5.keep hb (by repeat (first | (with_reducible exact X4) | (with_reducible refine Row5.alloc ?_ _) | (with_reducible refine Row5.drew ?_)))
  have R5 : Row5 w5 (w.heap.size + 1) (.bool false) (.int .u64 0) (.int .u64 0) (.int .u64 0) (.int .u64 0) := Row5.keep hb (by repeat (first | (with_reducible exact R4) | (with_reducible refine Row5.alloc ?_ _) | (with_reducible refine Row5.drew ?_)))
  clear X4 R4
  clear BW4
  clear hb
  go_wp2_with fail
  refine (rcmp_is HC.out L1.out (DR.keep (by repeat (first | (with_reducible exact Below.refl _ _) | (with_reducible refine bal ?_ _) | (with_reducible refine Below.drew ?_) | (with_reducible refine bdn ?_ _))) DX5) (DR.keep (by repeat (first | (with_reducible exact Below.refl _ _) | (with_reducible refine bal ?_ _) | (with_reducible refine Below.drew ?_) | (with_reducible refine bdn ?_ _))) DL5)).mono ?_
  rintro e w6 ⟨rfl, hb⟩
  have hbX : Below w5.heap.size w5 w6 := btr (by repeat (first | (with_reducible exact Below.refl _ _) | (with_reducible refine bal ?_ _) | (with_reducible refine Below.drew ?_) | (with_reducible refine bdn ?_ _))) hb
  have DX6 : DR w6 s1 x := DR.keep hbX DX5
  have DP6 : DR w6 s2 (2 ^ 53) := DR.keep hbX DP5
  have DL6 : DR w6 s3 9007199254740993 := DR.keep hbX DL5
  clear DX5 DP5 DL5
  clear hbX
  have BW6 : Below w.heap.size w w6 := btr (by repeat (first | (with_reducible exact BW5) | (with_reducible refine bal ?_ _) | (with_reducible refine Below.drew ?_) | (with_reducible refine bdn ?_ _))) hb
  have X6 : Row5 w6 w.heap.size (.bool true) (.int .u64 (lb 0 x)) (.int .u64 (lb 1 x)) (.int .u64 (lb 2 x)) (.int .u64 (lb 3 x)) := Row5.keep hb (by repeat (first | (with_reducible exact X5) | (with_reducible refine Row5.alloc ?_ _) | (with_reducible refine Row5.drew ?_)))
  have R6 : Row5 w6 (w.heap.size + 1) (.bool false) (.int .u64 0) (.int .u64 0) (.int .u64 0) (.int .u64 0) := Row5.keep hb (by repeat (first | (with_reducible exact R5) | (with_reducible refine Row5.alloc ?_ _) | (with_reducible refine Row5.drew ?_)))
  clear X5 R5
  clear BW5
  clear hb
  obtain ⟨Xc0, Xc1, Xc2, Xc3, Xc4⟩ := X6.parts
  obtain ⟨Xf0, Xf1, Xf2, Xf3, Xf4⟩ := X6.free
  go_upto_region 21 with (fail)
  go_name_world w7 hw7
  have BW7 : Below w.heap.size w w7 := by rw [← hw7]; repeat (first | (with_reducible exact BW6) | (with_reducible refine bal ?_ _) | (with_reducible refine Below.drew ?_) | (with_reducible refine bdn ?_ _))
  have hbX : Below w6.heap.size w6 w7 := by rw [← hw7]; repeat (first | (with_reducible exact Below.refl _ _) | (with_reducible refine bal ?_ _) | (with_reducible refine Below.drew ?_) | (with_reducible refine bdn ?_ _))
  have DX7 : DR w7 s1 x := DR.keep hbX DX6
  have DP7 : DR w7 s2 (2 ^ 53) := DR.keep hbX DP6
  have DL7 : DR w7 s3 9007199254740993 := DR.keep hbX DL6
  clear hbX DX6 DP6 DL6
  have X7 : Row5 w7 w.heap.size (.bool true) (.int .u64 (lb 0 x)) (.int .u64 (lb 1 x)) (.int .u64 (lb 2 x)) (.int .u64 (lb 3 x)) := by rw [← hw7]; exact (by repeat (first | (with_reducible exact X6) | (with_reducible refine Row5.alloc ?_ _) | (with_reducible refine Row5.drew ?_)))
  have R7 : Row5 w7 (w.heap.size + 1) (.bool false) (.int .u64 0) (.int .u64 0) (.int .u64 0) (.int .u64 0) := by rw [← hw7]; exact (by repeat (first | (with_reducible exact R6) | (with_reducible refine Row5.alloc ?_ _) | (with_reducible refine Row5.drew ?_)))
  clear X6 R6
  clear BW6
  clear hw7
  have lt_X := X7.lt
  have lt_R := R7.lt
  go_cut [15, 16] (fun s15 s16 wx => ∃ p : Nat, s15 = .pointer (some ⟨p, 0, none⟩) ∧ s16 = .bool b ∧ Row5 wx p (.bool h) (.int .u64 y0) (.int .u64 y1) (.int .u64 y2) (.int .u64 y3) ∧ w7.heap.size ≤ p ∧ Below w7.heap.size w7 wx)
  case first =>
    go_region_held3 (fun w' => w'.cell? ⟨w.heap.size, 0, none⟩ = some (.bool true) ∧ w'.cell? ⟨w.heap.size, 1, none⟩ = some (.int .u64 (lb 0 x)) ∧ w'.cell? ⟨w.heap.size, 2, none⟩ = some (.int .u64 (lb 1 x)) ∧ w'.cell? ⟨w.heap.size, 3, none⟩ = some (.int .u64 (lb 2 x)) ∧ w'.cell? ⟨w.heap.size, 4, none⟩ = some (.int .u64 (lb 3 x)))
      ((refine Row5.parts ?_; (repeat (first | (with_reducible assumption) | (with_reducible refine Row5.alloc ?_ _) | (with_reducible refine Row5.drew ?_) | ((with_reducible refine Row5.set ?_ ?_ _); rotate_left; (focus (omega))))); done))
      (first | (go_at_call 54; (with_reducible refine (rsub (DR.keep (by repeat (first | (with_reducible exact Below.refl _ _) | (with_reducible refine bal ?_ _) | (with_reducible refine Below.drew ?_) | (with_reducible refine bdn ?_ _))) DX7) (DR.keep (by repeat (first | (with_reducible exact Below.refl _ _) | (with_reducible refine bal ?_ _) | (with_reducible refine Below.drew ?_) | (with_reducible refine bdn ?_ _))) (ten_at _ _ 1 1 (by first | rfl | (simp; done)) (by decide) (by decide) rfl)) L1.out hle).mono ?_); rintro e wf1 ⟨sa, rfl, hra, hb1⟩; have Xf1 : Row5 wf1 w.heap.size (.bool true) (.int .u64 (lb 0 x)) (.int .u64 (lb 1 x)) (.int .u64 (lb 2 x)) (.int .u64 (lb 3 x)) := Row5.keep hb1 (by repeat (first | (with_reducible assumption) | (with_reducible refine Row5.alloc ?_ _) | (with_reducible refine Row5.drew ?_))); have ltXf1 := Xf1.lt; (first | (refine absorb (P := Row5 wf1 w7.heap.size (.bool false) (.int .u64 0) (.int .u64 0) (.int .u64 0) (.int .u64 0)) (Row5.keep hb1 ?_) (fun Z1 => ?_); (focus ((repeat (first | ((with_reducible refine Row5.new' _ ?_ _ _ _ _ _); (simp; done)) | (with_reducible refine Row5.alloc ?_ _) | (with_reducible refine Row5.drew ?_))); done))) | (refine absorb (P := Row5 wf1 (w7.heap.size + 1) (.bool false) (.int .u64 0) (.int .u64 0) (.int .u64 0) (.int .u64 0)) (Row5.keep hb1 ?_) (fun Z1 => ?_); (focus ((repeat (first | ((with_reducible refine Row5.new' _ ?_ _ _ _ _ _); (simp; done)) | (with_reducible refine Row5.alloc ?_ _) | (with_reducible refine Row5.drew ?_))); done))) | skip); (first | (obtain ⟨zc0, zc1, zc2, zc3, zc4⟩ := Z1.parts; obtain ⟨zf0, zf1, zf2, zf3, zf4⟩ := Z1.free) | skip)) | (go_at_call 51; (with_reducible refine (KW.out _ _ (DR.keep (by repeat (first | (with_reducible exact Below.refl _ _) | (with_reducible refine bal ?_ _) | (with_reducible refine Below.drew ?_) | (with_reducible refine bdn ?_ _))) hra)).mono ?_); rintro e wf2 ⟨rfl, hb2⟩; have Xf2 : Row5 wf2 w.heap.size (.bool true) (.int .u64 (lb 0 x)) (.int .u64 (lb 1 x)) (.int .u64 (lb 2 x)) (.int .u64 (lb 3 x)) := Row5.keep hb2 (by repeat (first | (with_reducible assumption) | (with_reducible refine Row5.alloc ?_ _) | (with_reducible refine Row5.drew ?_))); have ltXf2 := Xf2.lt; (first | (refine absorb (P := Row5 wf2 w7.heap.size (.bool false) (.int .u64 0) (.int .u64 0) (.int .u64 0) (.int .u64 0)) (Row5.keep hb2 ?_) (fun Z2 => ?_); (focus ((repeat (first | (with_reducible exact Z1) | (with_reducible refine Row5.alloc ?_ _) | (with_reducible refine Row5.drew ?_))); done))) | (refine absorb (P := Row5 wf2 (w7.heap.size + 1) (.bool false) (.int .u64 0) (.int .u64 0) (.int .u64 0) (.int .u64 0)) (Row5.keep hb2 ?_) (fun Z2 => ?_); (focus ((repeat (first | (with_reducible exact Z1) | (with_reducible refine Row5.alloc ?_ _) | (with_reducible refine Row5.drew ?_))); done))) | (refine absorb (P := Row5 wf2 wf1.heap.size (.bool false) (.int .u64 0) (.int .u64 0) (.int .u64 0) (.int .u64 0)) (Row5.keep hb2 ?_) (fun Z2 => ?_); (focus ((repeat (first | ((with_reducible refine Row5.new' _ ?_ _ _ _ _ _); (simp; done)) | (with_reducible refine Row5.alloc ?_ _) | (with_reducible refine Row5.drew ?_))); done))) | skip); (first | (obtain ⟨zc0, zc1, zc2, zc3, zc4⟩ := Z2.parts; obtain ⟨zf0, zf1, zf2, zf3, zf4⟩ := Z2.free) | skip)))
    all_goals
      have BB1 : Below w7.heap.size w7 wf1 := btr (by repeat (first | (with_reducible exact Below.refl _ _) | (with_reducible refine bal ?_ _) | (with_reducible refine Below.drew ?_) | (with_reducible refine bdn ?_ _))) hb1
      have BB2 : Below w7.heap.size w7 wf2 := btr (by repeat (first | (with_reducible exact BB1) | (with_reducible refine bal ?_ _) | (with_reducible refine Below.drew ?_) | (with_reducible refine bdn ?_ _))) hb2
      have hs := BB2.size
      have hs1 := BB1.size
      go_wp2_with fail
      go_meet
      first
        | with_reducible exact ⟨_, rfl, rfl, Row5.new _ _ _ _ _ _, hs, bal BB2 _⟩
        | with_reducible exact ⟨_, rfl, rfl, Row5.set5 Z2 _ _ _ _ _, by omega, bsc5 BB2 (by omega) _ _ _ _ _⟩
        | with_reducible exact ⟨_, rfl, rfl, Row5.set5 Z2 _ _ _ _ _, by omega, bsc5 BB2 (by omega) _ _ _ _ _⟩
  case rest =>
    obtain ⟨pO, rfl, rfl, Oq, hpO, hBO⟩ := hcut
    have hb := hBO
    generalize wc = w8 at *
    have BW8 : Below w.heap.size w w8 := btr BW7 hb
    have X8 : Row5 w8 w.heap.size (.bool true) (.int .u64 (lb 0 x)) (.int .u64 (lb 1 x)) (.int .u64 (lb 2 x)) (.int .u64 (lb 3 x)) := Row5.keep hb X7
    have R8 : Row5 w8 (w.heap.size + 1) (.bool false) (.int .u64 0) (.int .u64 0) (.int .u64 0) (.int .u64 0) := Row5.keep hb R7
    have O8 : Row5 w8 pO (.bool h) (.int .u64 y0) (.int .u64 y1) (.int .u64 y2) (.int .u64 y3) := Oq
    clear X7 R7 BW7 hb hBO Oq
    obtain ⟨Oc0, Oc1, Oc2, Oc3, Oc4⟩ := O8.parts
    obtain ⟨Of0, Of1, Of2, Of3, Of4⟩ := O8.free
    go_wp2_with fail
    refine (KO.out _).mono ?_
    rintro e w9 ⟨rfl, hb⟩
    have BW9 : Below w.heap.size w w9 := btr (by repeat (first | (with_reducible exact BW8) | (with_reducible refine bal ?_ _) | (with_reducible refine Below.drew ?_) | (with_reducible refine bdn ?_ _))) hb
    have X9 : Row5 w9 w.heap.size (.bool true) (.int .u64 (lb 0 x)) (.int .u64 (lb 1 x)) (.int .u64 (lb 2 x)) (.int .u64 (lb 3 x)) := Row5.keep hb (by repeat (first | (with_reducible exact X8) | (with_reducible refine Row5.alloc ?_ _) | (with_reducible refine Row5.drew ?_)))
    have R9 : Row5 w9 (w.heap.size + 1) (.bool false) (.int .u64 0) (.int .u64 0) (.int .u64 0) (.int .u64 0) := Row5.keep hb (by repeat (first | (with_reducible exact R8) | (with_reducible refine Row5.alloc ?_ _) | (with_reducible refine Row5.drew ?_)))
    have O9 : Row5 w9 pO (.bool h) (.int .u64 y0) (.int .u64 y1) (.int .u64 y2) (.int .u64 y3) := Row5.keep hb (by repeat (first | (with_reducible exact O8) | (with_reducible refine Row5.alloc ?_ _) | (with_reducible refine Row5.drew ?_)))
    clear X8 R8 O8
    clear BW8
    clear hb
    obtain ⟨Rc0, Rc1, Rc2, Rc3, Rc4⟩ := R9.parts
    obtain ⟨Rf0, Rf1, Rf2, Rf3, Rf4⟩ := R9.free
    have lt_R := R9.lt
    go_wp2
    exact bodyPost_ret (v := .tuple #[.agg #[.bool h, .int .u64 y0, .int .u64 y1, .int .u64 y2, .int .u64 y3], .bool b]) (by simp [results, Tryz.results24, go_sem, Rc0, Rc1, Rc2, Rc3, Rc4]) rfl ⟨rfl, by repeat (first | (with_reducible exact BW9) | (with_reducible refine bal ?_ _) | (with_reducible refine Below.drew ?_) | (with_reducible refine bdn ?_ _) | ((with_reducible refine bsc ?_ ?_ _); rotate_left; (focus (simp only []; omega))))⟩
end Go.Proofs.YtjlgiejggcbgbaaGreatDoor
end
section
namespace Go.Proofs.YtjlgiejggcbgbaaGreatDoor
open Go.RowKit Go.Shelf
open Go.Sort (grow)
attribute [local go_sem ↓] eql_nat neq_nat eql_int5 neq_int5

end Go.Proofs.YtjlgiejggcbgbaaGreatDoor
end
section
namespace Go.Proofs.YtjlgiejggcbgbaaGreatDoor

/-- A number that a float of 64 bits has: 53 bits, moved. -/
theorem exq_iff {x : Nat} (hx : x < 2 ^ 256) : exq x = true ↔ ∃ m k : Nat, x = m * 2 ^ k ∧ m < 2 ^ 53 := by
  by_cases h0 : x = 0
  · subst h0
    refine ⟨fun _ => ⟨0, 0, by simp, by decide⟩, fun _ => by decide +kernel⟩
  obtain ⟨⟨n, hn⟩, ht⟩ := tz_spec h0 hx
  obtain ⟨b1, b2, b3⟩ := blen_spec h0
  unfold exq
  rw [decide_eq_true_iff]
  constructor
  · intro h
    refine ⟨2 * n + 1, tz x, by rw [Nat.mul_comm]; exact hn, ?_⟩
    have hlt : 2 ^ tz x * (2 * n + 1) < 2 ^ (tz x + 53) := by
      rw [← hn]
      exact Nat.lt_of_lt_of_le b3 (Nat.pow_le_pow_right (by decide) (by omega))
    rw [Nat.pow_add] at hlt
    exact Nat.lt_of_mul_lt_mul_left hlt
  · rintro ⟨m, k, hm, hlt⟩
    have hm0 : m ≠ 0 := by intro h; subst h; simp at hm; exact h0 hm
    -- the noughts at the end are at least k more than m's
    have hk : k ≤ tz x := by
      apply Decidable.byContradiction
      intro hk
      have : x = 2 ^ tz x * (2 * (m * 2 ^ (k - tz x - 1))) := by
        have e : 2 ^ k = 2 ^ tz x * (2 * 2 ^ (k - tz x - 1)) := by
          rw [← Nat.pow_succ', ← Nat.pow_add, show tz x + (k - tz x - 1 + 1) = k from by omega]
        conv => lhs; rw [hm, e]
        rw [Nat.mul_left_comm, Nat.mul_left_comm m 2]
      rw [this] at hn
      have e1 : tz (2 ^ tz x * (2 * (m * 2 ^ (k - tz x - 1)))) = tz x := by rw [← this]
      rw [e1] at hn
      have := Nat.eq_of_mul_eq_mul_left (Nat.two_pow_pos _) hn
      omega
    have hb : blen x ≤ 53 + k := by
      apply blen_le
      rw [hm, Nat.pow_add]
      exact Nat.mul_lt_mul_of_pos_right hlt (Nat.two_pow_pos _)
    omega
/-- Of a number that is not exact: cut off below 53 bits, it is less, and more than that by one of the last bits kept is greater; nothing exact lies between. -/
theorem cut_bounds {x : Nat} (hx : x < 2 ^ 256) (h : exq x = false) : 53 < blen x ∧
    (let o := blen x - 53
     x / 2 ^ o < 2 ^ 53 ∧ 2 ^ 52 ≤ x / 2 ^ o ∧ x / 2 ^ o * 2 ^ o < x ∧ x < (x / 2 ^ o + 1) * 2 ^ o) := by
  have hb := blen_exq h
  refine ⟨hb, ?_⟩
  have h0 : x ≠ 0 := by intro e; subst e; simp [blen] at hb
  obtain ⟨b1, b2, b3⟩ := blen_spec h0
  intro o
  have ho : blen x = 53 + o := by omega
  have hp := Nat.two_pow_pos o
  have c1 : x / 2 ^ o < 2 ^ 53 := by
    rw [Nat.div_lt_iff_lt_mul hp, ← Nat.pow_add, ← ho]; exact b3
  have c2 : 2 ^ 52 ≤ x / 2 ^ o := by
    rw [Nat.le_div_iff_mul_le hp, ← Nat.pow_add]
    rwa [show 52 + o = blen x - 1 from by omega]
  refine ⟨c1, c2, ?_, ?_⟩
  · rcases Nat.lt_or_eq_of_le (Nat.div_mul_le_self x (2 ^ o)) with h1 | h1
    · exact h1
    · exfalso
      have : exq x = true := (exq_iff hx).2 ⟨x / 2 ^ o, o, h1.symm, c1⟩
      rw [h] at this; cases this
  · have := Nat.lt_div_mul_add hp (a := x)
    rw [Nat.add_mul, Nat.one_mul]; exact this
/-- An exact number is at the cut, or below, or beyond the next one. -/
theorem exact_apart {x y : Nat} (hx : x < 2 ^ 256) (hy : y < 2 ^ 256) (h : exq x = false) (he : exq y = true) :
    y ≤ x / 2 ^ (blen x - 53) * 2 ^ (blen x - 53) ∨ (x / 2 ^ (blen x - 53) + 1) * 2 ^ (blen x - 53) ≤ y := by
  obtain ⟨hb, c⟩ := cut_bounds hx h
  obtain ⟨c1, c2, c3, c4⟩ := c
  obtain ⟨m, k, hm, hlt⟩ := (exq_iff hy).1 he
  have hp := Nat.two_pow_pos (blen x - 53)
  by_cases hk : blen x - 53 ≤ k
  · -- y is a multiple of the last bit kept
    obtain ⟨j, rfl⟩ : ∃ j, k = (blen x - 53) + j := ⟨k - (blen x - 53), by omega⟩
    have e : y = (m * 2 ^ j) * 2 ^ (blen x - 53) := by rw [hm, Nat.pow_add, Nat.mul_comm (2 ^ (blen x - 53)), Nat.mul_assoc]
    rw [e]
    rcases Nat.lt_or_ge (x / 2 ^ (blen x - 53)) (m * 2 ^ j) with h1 | h1
    · exact .inr (Nat.mul_le_mul_right _ h1)
    · exact .inl (Nat.mul_le_mul_right _ h1)
  · -- y is less than any number of so many bits
    left
    have hy2 : y < 2 ^ (53 + k) := by
      rw [hm, Nat.pow_add]; exact Nat.mul_lt_mul_of_pos_right hlt (Nat.two_pow_pos _)
    have h3 : 2 ^ (53 + k) ≤ 2 ^ 52 * 2 ^ (blen x - 53) := by
      rw [← Nat.pow_add]; exact Nat.pow_le_pow_right (by decide) (by omega)
    have h4 : 2 ^ 52 * 2 ^ (blen x - 53) ≤ x / 2 ^ (blen x - 53) * 2 ^ (blen x - 53) := Nat.mul_le_mul_right _ c2
    omega
theorem exq_cut {x : Nat} (hx : x < 2 ^ 256) (h : exq x = false) : exq (x / 2 ^ (blen x - 53) * 2 ^ (blen x - 53)) = true := by
  obtain ⟨_, c⟩ := cut_bounds hx h
  obtain ⟨c1, _, c3, _⟩ := c
  exact (exq_iff (by omega)).2 ⟨_, _, rfl, c1⟩
theorem exq_next {x : Nat} (hx : x < 2 ^ 256) (h : exq x = false) (hl : (x / 2 ^ (blen x - 53) + 1) * 2 ^ (blen x - 53) < 2 ^ 256) : exq ((x / 2 ^ (blen x - 53) + 1) * 2 ^ (blen x - 53)) = true := by
  obtain ⟨_, c⟩ := cut_bounds hx h
  obtain ⟨c1, _, _, _⟩ := c
  rcases Nat.lt_or_eq_of_le (show x / 2 ^ (blen x - 53) + 1 ≤ 2 ^ 53 from c1) with h1 | h1
  · exact (exq_iff hl).2 ⟨_, _, rfl, h1⟩
  · refine (exq_iff hl).2 ⟨1, 53 + (blen x - 53), ?_, by decide⟩
    rw [h1, Nat.one_mul, Nat.pow_add]

/-- Small numbers are exact; beyond 2^53 the exact ones are even. -/
theorem exq_small {x : Nat} (h : x ≤ 2 ^ 53) : exq x = true := by
  rcases Nat.lt_or_eq_of_le h with h1 | h1
  · exact (exq_iff (by omega)).2 ⟨x, 0, by simp, h1⟩
  · exact (exq_iff (by omega)).2 ⟨1, 53, by rw [h1], by decide⟩
theorem exq_even {x : Nat} (hx : x < 2 ^ 256) (h : exq x = true) (hl : 2 ^ 53 ≤ x) : x % 2 = 0 := by
  obtain ⟨m, k, hm, hlt⟩ := (exq_iff hx).1 h
  cases k with
  | zero => simp at hm; omega
  | succ k => rw [hm, Nat.pow_succ, ← Nat.mul_assoc]; omega
theorem exq_odd {x : Nat} (hx : x < 2 ^ 256) (hl : 2 ^ 53 < x) (ho : x % 2 = 1) : exq x = false := by
  cases h : exq x with
  | false => rfl
  | true => have := exq_even hx h (by omega); omega

/-- Upward and downward, said of integers. -/
theorem eup_ge {z : Int} (hz : z.natAbs < 2 ^ 256) : z ≤ eup z ∧ ((eup z).natAbs < 2 ^ 256 → exq (eup z).natAbs = true) := by
  unfold eup
  by_cases hq : exq z.natAbs = true
  · rw [if_pos hq]; exact ⟨Int.le_refl _, fun _ => hq⟩
  · rw [if_neg hq]
    have hq' : exq z.natAbs = false := by simpa using hq
    obtain ⟨_, c⟩ := cut_bounds hz hq'
    obtain ⟨c1, c2, c3, c4⟩ := c
    by_cases h0 : 0 ≤ z
    · rw [if_pos h0]
      refine ⟨by omega, fun hl => ?_⟩
      rw [Int.natAbs_natCast] at hl ⊢
      exact exq_next hz hq' hl
    · rw [if_neg h0]
      refine ⟨by omega, fun hl => ?_⟩
      rw [Int.natAbs_neg, Int.natAbs_natCast] at hl ⊢
      exact exq_cut hz hq'
theorem eup_le {z b : Int} (hz : z.natAbs < 2 ^ 256) (hb : b.natAbs < 2 ^ 256) (he : exq b.natAbs = true) (h : z ≤ b) : eup z ≤ b := by
  unfold eup
  by_cases hq : exq z.natAbs = true
  · rw [if_pos hq]; exact h
  · rw [if_neg hq]
    have hq' : exq z.natAbs = false := by simpa using hq
    obtain ⟨_, c⟩ := cut_bounds hz hq'
    obtain ⟨c1, c2, c3, c4⟩ := c
    have ap := exact_apart hz hb hq' he
    have hp := Nat.two_pow_pos (blen z.natAbs - 53)
    by_cases h0 : 0 ≤ z
    · rw [if_pos h0]
      rcases ap with h1 | h1 <;> omega
    · rw [if_neg h0]
      by_cases hb0 : 0 ≤ b
      · omega
      · rcases ap with h1 | h1 <;> omega
theorem rup_ge {z : Int} (hz : z.natAbs < 2 ^ 256) : z ≤ rup z ∧ (rup z).natAbs < 2 ^ 256 ∧ exq (rup z).natAbs = false := by
  unfold rup
  by_cases hq : exq z.natAbs = true
  · rw [if_pos hq]
    by_cases hs : z.natAbs ≤ 9007199254740992
    · rw [if_pos hs]
      exact ⟨by omega, by decide, by decide +kernel⟩
    · rw [if_neg hs]
      have hev := exq_even hz hq (by omega)
      have hl : (z + 1).natAbs < 2 ^ 256 := by omega
      exact ⟨by omega, hl, exq_odd hl (by omega) (by omega)⟩
  · rw [if_neg hq]
    exact ⟨Int.le_refl _, hz, by simpa using hq⟩
theorem rup_le {z b : Int} (_hz : z.natAbs < 2 ^ 256) (hb : b.natAbs < 2 ^ 256) (he : exq b.natAbs = false) (h : z ≤ b) : rup z ≤ b := by
  have hbl : 9007199254740992 < b.natAbs := by
    apply Decidable.byContradiction
    intro hn
    have := exq_small (x := b.natAbs) (by omega)
    rw [he] at this; cases this
  unfold rup
  by_cases hq : exq z.natAbs = true
  · rw [if_pos hq]
    by_cases hs : z.natAbs ≤ 9007199254740992
    · rw [if_pos hs]; omega
    · rw [if_neg hs]
      have : z ≠ b := by intro e; subst e; rw [he] at hq; cases hq
      omega
  · rw [if_neg hq]; exact h
/-- Where nothing exact is left above: none that is greater is. -/
theorem eup_none {z b : Int} (hz : z.natAbs < 2 ^ 256) (hb : b.natAbs < 2 ^ 256) (hn : ¬ (eup z).natAbs < 2 ^ 256) (he : exq b.natAbs = true) : b < z := by
  apply Decidable.byContradiction
  intro h
  have h1 := eup_le hz hb he (by omega)
  have h2 := (eup_ge hz).1
  omega
/-- Both ends are not missed at once. -/
theorem eup_some {z : Int} (hz : z.natAbs < 2 ^ 256) : (eup z).natAbs < 2 ^ 256 ∨ (eup (-z)).natAbs < 2 ^ 256 := by
  by_cases h0 : 0 ≤ z
  · right
    have h1 := (eup_ge (z := -z) (by omega)).1
    have h2 := eup_le (z := -z) (b := 0) (by omega) (by decide) (by decide +kernel) (by omega)
    omega
  · left
    have h1 := (eup_ge hz).1
    have h2 := eup_le (z := z) (b := 0) hz (by decide) (by decide +kernel) (by omega)
    omega
end Go.Proofs.YtjlgiejggcbgbaaGreatDoor
end
section
namespace Go.Proofs.YtjlgiejggcbgbaaGreatDoor
open Go.RowKit Go.Shelf

theorem under_same {f : FuncId} {l : Array Value} {w : World} {r : Ending} (h : Calls Tryz.prog f l w fun e w' => e = r ∧ w' = w) : Calls Tryz.prog f l w fun e w' => e = r ∧ Below w.heap.size w w' :=
  h.mono (fun _ _ ⟨a, b⟩ => ⟨a, by rw [b]; exact Below.refl _ _⟩)
theorem rmay_ok (g : Bool) (x : Nat) (hx : x < 2 ^ 256) (h : ¬ (g = true ∧ x = 0)) (w : World) :
    Calls Tryz.prog 30 #[I5 g x] w fun e w' => e = .returned (.bool true) ∧ Below w.heap.size w w' := by
  cases g with
  | false => exact rmay_pos _ _ _ _ w
  | true =>
    have hm := rmay_neg (lb 0 x) (lb 1 x) (lb 2 x) (lb 3 x) w
    rw [show eq4 (lb 0 x) (lb 1 x) (lb 2 x) (lb 3 x) 0 0 0 0 = false from (eq4_of x 0 hx (by decide)).trans (decide_eq_false (fun h0 => h ⟨rfl, h0⟩))] at hm
    exact hm
theorem rmay_none (w : World) :
    Calls Tryz.prog 30 #[I5 true 0] w fun e w' => e = .returned (.bool false) ∧ Below w.heap.size w w' := by
  have hm := rmay_neg 0 0 0 0 w
  rw [show eq4 0 0 0 0 0 0 0 0 = true by decide] at hm
  unfold I5
  simp only [lb_zero]
  exact hm
theorem rexq (g : Bool) (x : Nat) (hx : x < 2 ^ 256) (h : ¬ (g = true ∧ x = 0)) (w : World) :
    Calls Tryz.prog 9 #[I5 g x] w fun e w' => e = .returned (.bool (exq x)) ∧ Below w.heap.size w w' := by
  have km := fun W => rmay_ok g x hx h W
  have lx := digs_eight hx
  by_cases h0 : x = 0
  · subst h0
    rw [show exq 0 = true from by decide]
    exact rex_zero g 0 hx w km (fun s' W hD => under_same (rlen hD lx))
  · obtain ⟨⟨m, hm⟩, ht⟩ := tz_spec h0 hx
    have hL := blen_le hx
    have hbs := blen_spec h0
    have hz : (((blen x : Nat) : Int) == 0) = false := by rw [beq_eq_false_iff_ne]; omega
    cases hq : exq x with
    | true =>
      unfold exq at hq
      have hq := of_decide_eq_true hq
      exact rex_some g x hx (blen x) (tz x) hz (by omega) (by omega) hq w km (fun s' W hD => under_same (rlen hD lx)) (fun s' W hD => under_same (rtrail hD lx hm (by omega)))
    | false =>
      unfold exq at hq
      have hq := of_decide_eq_false hq
      exact rex_no g x hx (blen x) (tz x) hz (by omega) (by omega) (by omega) w km (fun s' W hD => under_same (rlen hD lx)) (fun s' W hD => under_same (rtrail hD lx hm (by omega)))
theorem znum_fm (t : Int) : ∃ h y, y < 2 ^ 256 ∧ Znum t = .tuple #[I5 h y, .bool (decide (t.natAbs < 2 ^ 256))] ∧ (t.natAbs < 2 ^ 256 → y = t.natAbs ∧ ¬ (h = true ∧ y = 0)) := by
  by_cases ht : t.natAbs < 2 ^ 256
  · rw [decide_eq_true ht, Znum_of ht]
    refine ⟨_, _, ht, rfl, fun _ => ⟨rfl, ?_⟩⟩
    rintro ⟨h1, h2⟩
    have := of_decide_eq_true h1
    omega
  · rw [decide_eq_false ht, Znum_Z5 ht]
    exact ⟨false, 0, by decide, by unfold I5; simp only [lb_zero], fun h => absurd h ht⟩
theorem rwh_zn {s : Value} {v : Nat} (g : Bool) (t : Int) (ht : t = if g then -(v : Int) else v) {w : World} (h : DR w s v) :
    Calls Tryz.prog 51 #[.bool g, s] w fun e w' => e = .returned (Znum t) ∧ Below w.heap.size w w' := by
  have hn : t.natAbs = v := by rw [ht]; split <;> omega
  have := rwh g h
  rw [← ht] at this
  unfold Znum
  rw [hn]
  exact this
/-- odd, of a number that is not exact, or of none. -/
theorem rodd_zn {h : Bool} {y : Nat} {t : Int} (up : Bool) (hy : y < 2 ^ 256) (hyt : t.natAbs < 2 ^ 256 → y = t.natAbs ∧ ¬ (h = true ∧ y = 0)) (ho : exq t.natAbs = false) (w : World) :
    Calls Tryz.prog 53 #[I5 h y, .bool (decide (t.natAbs < 2 ^ 256)), .bool up] w fun e w' => e = .returned (.tuple #[I5 h y, .bool (decide (t.natAbs < 2 ^ 256))]) ∧ Below w.heap.size w w' := by
  by_cases ht : t.natAbs < 2 ^ 256
  · rw [decide_eq_true ht]
    obtain ⟨e, hg⟩ := hyt ht
    exact rodd_rough h up _ _ _ _ w (fun W => by
      have := rexq h y hy hg W
      rw [e, ho, ← e] at this
      exact this)
  · rw [decide_eq_false ht]
    exact rodd_none h up _ _ _ _ w
/-- The target of Near. -/
def nearT (z : Int) (up ex : Bool) : Int := if ex then (if up then eup z else -(eup (-z))) else (if up then rup z else -(rup (-z)))
theorem shift_down {x k : Nat} (hk : 0 < k) (hk2 : k ≤ 300) (lx : (digs x).length ≤ 1000) {s : Value} {w : World} (h : DR w s x) :
    Calls Tryz.prog 49 #[s, .int .i64 (-(k : Int))] w fun e w' => ∃ s2, e = .returned s2 ∧ DR w' s2 (x / 2 ^ k) ∧ Below w.heap.size w w' := by
  have := rshift h lx (-(k : Int)) (by omega) (by omega)
  unfold shv at this
  rw [if_neg (by omega), show (-(-(k : Int))).toNat = k from by omega] at this
  exact this
theorem shift_up {x k : Nat} (hk2 : k ≤ 300) (lx : (digs x).length ≤ 1000) {s : Value} {w : World} (h : DR w s x) :
    Calls Tryz.prog 49 #[s, .int .i64 (k : Int)] w fun e w' => ∃ s2, e = .returned s2 ∧ DR w' s2 (x * 2 ^ k) ∧ Below w.heap.size w w' := by
  have := rshift h lx (k : Int) (by omega) (by omega)
  unfold shv at this
  rw [if_pos (by omega), Int.toNat_natCast] at this
  exact this
theorem rnear_z (g : Bool) (x : Nat) (hx : x < 2 ^ 256) (hg : ¬ (g = true ∧ x = 0)) (z : Int) (ez : z = if g then -(x : Int) else x) (up ex : Bool) (w : World) :
    Calls Tryz.prog 24 #[I5 g x, .bool up, .bool ex] w fun e w' => e = .returned (Znum (nearT z up ex)) ∧ Below w.heap.size w w' := by
  have hn : z.natAbs = x := by rw [ez]; split <;> omega
  have hn2 : (-z).natAbs = x := by omega
  have lx := digs_eight hx
  have k1 := fun W => rmay_ok g x hx hg W
  have k2 := fun W => rexq g x hx hg W
  have klen : ∀ s' W, DR W s' x → Calls Tryz.prog 31 #[s'] W fun e w' => e = .returned (.int .i64 ((blen x : Nat) : Int)) ∧ Below W.heap.size W w' := fun s' W hD => under_same (rlen hD lx)
  by_cases hs : exq x = ex
  · have ht : nearT z up ex = z := by
      unfold nearT
      cases ex with
      | true =>
        have e1 : eup z = z := by unfold eup; rw [hn, hs, if_pos rfl]
        have e2 : eup (-z) = -z := by unfold eup; rw [hn2, hs, if_pos rfl]
        rw [e1, e2]
        cases up <;> simp
      | false =>
        have e1 : rup z = z := by unfold rup; rw [hn, hs]; rfl
        have e2 : rup (-z) = -z := by unfold rup; rw [hn2, hs]; rfl
        rw [e1, e2]
        cases up <;> simp
    rw [ht, Znum_of (by omega)]
    have hI : Iz z = I5 g x := by
      rw [ez]
      cases g with
      | false => exact Iz_nat x
      | true => exact Iz_neg (fun h0 => hg ⟨rfl, h0⟩)
    rw [hI]
    rw [hs] at k2
    cases g <;> cases ex
    · exact rnear_same_false_false up x hx w k1 k2
    · exact rnear_same_false_true up x hx w k1 k2
    · exact rnear_same_true_false up x hx w k1 k2
    · exact rnear_same_true_true up x hx w k1 k2
  · obtain ⟨h, y, hy, hf, hyt⟩ := znum_fm (nearT z up ex)
    have key : ∀ (gg : Bool) (v : Nat), nearT z up ex = (if gg then -(v : Int) else v) → ∀ s' W, DR W s' v → Calls Tryz.prog 51 #[.bool gg, s'] W fun e w' => e = .returned (.tuple #[I5 h y, .bool (decide ((nearT z up ex).natAbs < 2 ^ 256))]) ∧ Below W.heap.size W w' := fun gg v e s' W hD => by
      have := rwh_zn gg _ e hD
      rw [hf] at this
      exact this
    rw [hf]
    cases ex with
    | true =>
      have hq : exq x = false := by cases h : exq x with
        | false => rfl
        | true => exact absurd h hs
      rw [hq] at k2
      have hb := blen_exq hq
      have hL := blen_le hx
      obtain ⟨k, hk⟩ : ∃ k, blen x = k + 53 := ⟨blen x - 53, by omega⟩
      have hk2 : blen x - 53 = k := by omega
      have hx0 : x ≠ 0 := by intro h0; rw [h0] at hb; revert hb; decide
      obtain ⟨q, hqq⟩ : ∃ q, q = x / 2 ^ k := ⟨_, rfl⟩
      have hq1 : q ≤ x := by rw [hqq]; exact Nat.div_le_self _ _
      have hqd : q + 1 < 2 ^ 256 := by
        have h2 : 2 ≤ 2 ^ k := by
          have := Nat.pow_le_pow_right (show 0 < 2 by decide) (show 1 ≤ k by omega)
          exact this
        have h3 : q * 2 ≤ x := by
          have h4 := Nat.div_mul_le_self x (2 ^ k)
          rw [← hqq] at h4
          exact Nat.le_trans (Nat.mul_le_mul_left _ h2) h4
        omega
      have lq := digs_eight (show q < 2 ^ 256 by omega)
      have lq1 := digs_eight hqd
      have eupp : ∀ t : Int, t.natAbs = x → eup t = if 0 ≤ t then (((q + 1) * 2 ^ k : Nat) : Int) else -((q * 2 ^ k : Nat) : Int) := fun t ht => by
        unfold eup
        rw [ht, hq, hk2, ← hqq]
        simp only [Bool.false_eq_true, if_false]
      have hki : ((blen x : Nat) : Int) - 53 = (k : Int) := by omega
      have k4 : ∀ s' W, DR W s' x → Calls Tryz.prog 49 #[s', .int .i64 (-(k : Int))] W fun e w' => ∃ s2, e = .returned s2 ∧ DR w' s2 q ∧ Below W.heap.size W w' := fun s' W hD => by
        rw [hqq]; exact shift_down (by omega) (by omega) lx hD
      have up5 : ∀ s' W, DR W s' (q + 1) → Calls Tryz.prog 49 #[s', .int .i64 (k : Int)] W fun e w' => ∃ s2, e = .returned s2 ∧ DR w' s2 ((q + 1) * 2 ^ k) ∧ Below W.heap.size W w' := fun s' W hD => shift_up (by omega) lq1 hD
      have dn5 : ∀ s' W, DR W s' q → Calls Tryz.prog 49 #[s', .int .i64 (k : Int)] W fun e w' => ∃ s2, e = .returned s2 ∧ DR w' s2 (q * 2 ^ k) ∧ Below W.heap.size W w' := fun s' W hD => shift_up (by omega) lq hD
      have T1 : nearT z true true = eup z := rfl
      have T2 : nearT z false true = -(eup (-z)) := rfl
      cases g <;> cases up
      · simp only [Bool.false_eq_true, if_false] at ez
        exact rnear_cut_false x hx h _ _ _ _ _ (blen x) k q (q * 2 ^ k) hki (by omega) w k1 k2 klen k4 dn5 (key false _ (by rw [T2, eupp _ hn2, if_neg (by omega)]; simp))
      · simp only [Bool.false_eq_true, if_false] at ez
        exact rnear_cutup_false x hx h _ _ _ _ _ (blen x) k q ((q + 1) * 2 ^ k) hki (by omega) (by omega) w k1 k2 klen k4 up5 (key false _ (by rw [T1, eupp _ hn, if_pos (by omega)]; simp))
      · simp only [if_true] at ez
        exact rnear_cutup_true x hx h _ _ _ _ _ (blen x) k q ((q + 1) * 2 ^ k) hki (by omega) (by omega) w k1 k2 klen k4 up5 (key true _ (by rw [T2, eupp _ hn2, if_pos (by omega)]; simp))
      · simp only [if_true] at ez
        exact rnear_cut_true x hx h _ _ _ _ _ (blen x) k q (q * 2 ^ k) hki (by omega) w k1 k2 klen k4 dn5 (key true _ (by rw [T1, eupp _ hn, if_neg (by omega)]; simp))
    | false =>
      have hq : exq x = true := by cases h : exq x with
        | true => rfl
        | false => exact absurd h hs
      rw [hq] at k2
      have e53 : (2 : Nat) ^ 53 = 9007199254740992 := by decide
      have rupp : ∀ t : Int, t.natAbs = x → rup t = if x ≤ 9007199254740992 then 9007199254740993 else t + 1 := fun t ht => by
        unfold rup
        rw [ht, hq]
        simp only [if_true]
      have hlen : blen x ≤ 53 → x < 9007199254740992 := fun hl => by
        by_cases h0 : x = 0
        · omega
        · have hb := (blen_spec h0).2.2
          exact Nat.lt_of_lt_of_le hb (by rw [← e53]; exact Nat.pow_le_pow_right (by decide) hl)
      have hlen2 : 53 < blen x → 9007199254740992 ≤ x := fun hl => by
        have h0 : x ≠ 0 := by intro h0; rw [h0] at hl; revert hl; decide
        have hb := (blen_spec h0).2.1
        exact Nat.le_trans (by rw [← e53]; exact Nat.pow_le_pow_right (by decide) (by omega)) hb
      have T1 : nearT z true false = rup z := rfl
      have T2 : nearT z false false = -(rup (-z)) := rfl
      have even : 9007199254740992 ≤ x → x % 2 = 0 := fun h => exq_even hx hq (by omega)
      have rough : ∀ v : Nat, 9007199254740992 < v → v % 2 = 1 → exq v = false := fun v h1 h2 => by
        by_cases hv : v < 2 ^ 256
        · exact exq_odd hv (by omega) h2
        · cases hv2 : exq v with
          | false => rfl
          | true =>
            exfalso
            unfold exq at hv2
            have hv3 := of_decide_eq_true hv2
            have h0 : v ≠ 0 := by omega
            have htz : tz v ≤ 0 := by
              have : v = 2 ^ 0 * (2 * (v / 2) + 1) := by omega
              unfold tz
              rw [if_neg h0]
              unfold Lib.ctzFrom
              simp [h2]
            have hb := (blen_spec h0).2.2
            have hle : 2 ^ blen v ≤ 2 ^ 53 := Nat.pow_le_pow_right (by decide) (by omega)
            have : (2 : Nat) ^ 53 ≤ 2 ^ 256 := Nat.pow_le_pow_right (by decide) (by decide)
            omega
      have ko : exq (nearT z up false).natAbs = false → ∀ W, Calls Tryz.prog 53 #[I5 h y, .bool (decide ((nearT z up false).natAbs < 2 ^ 256)), .bool up] W fun e w' => e = .returned (.tuple #[I5 h y, .bool (decide ((nearT z up false).natAbs < 2 ^ 256))]) ∧ Below W.heap.size W w' := fun ho W => rodd_zn up hy hyt ho W
      cases g <;> cases up
      · simp only [Bool.false_eq_true, if_false] at ez
        by_cases hc : x < 9007199254740993
        · exact rnear_turn_false x hx h _ _ _ _ _ (-1) (rcv_lt hc) (by decide) w k1 k2 (key true _ (by rw [T2, rupp _ hn2, if_pos (by omega)]; rfl))
        · have hev := even (by omega)
          have ht : nearT z false false = ((x - 1 : Nat) : Int) := by rw [T2, rupp _ hn2, if_neg (by omega)]; omega
          exact rnear_less_false x hx h _ _ _ _ _ (rcv x 9007199254740993) rfl (by unfold rcv; rw [if_neg hc]; split <;> decide) (by omega) w k1 k2 (key false _ (by rw [ht]; simp)) (ko (by rw [ht, Int.natAbs_natCast]; exact rough _ (by omega) (by omega)))
      · simp only [Bool.false_eq_true, if_false] at ez
        by_cases hl : blen x ≤ 53
        · exact rnear_least_false x hx h _ _ _ _ _ (blen x) (by omega) w k1 k2 klen (key false _ (by have := hlen hl; rw [T1, rupp _ hn, if_pos (by omega)]; rfl))
        · have hx53 := hlen2 (by omega)
          have hev := even hx53
          have ht : nearT z true false = ((x + 1 : Nat) : Int) := by
            rw [T1, rupp _ hn]
            by_cases he : x ≤ 9007199254740992
            · rw [if_pos he]; omega
            · rw [if_neg he]; omega
          exact rnear_grow_false x hx h _ _ _ _ _ (blen x) (by omega) w k1 k2 klen (key false _ (by rw [ht]; simp)) (ko (by rw [ht, Int.natAbs_natCast]; exact rough _ (by omega) (by omega)))
      · simp only [if_true] at ez
        by_cases hl : blen x ≤ 53
        · exact rnear_least_true x hx h _ _ _ _ _ (blen x) (by omega) w k1 k2 klen (key true _ (by have := hlen hl; rw [T2, rupp _ hn2, if_pos (by omega)]; rfl))
        · have hx53 := hlen2 (by omega)
          have hev := even hx53
          have ht : nearT z false false = -((x + 1 : Nat) : Int) := by
            rw [T2, rupp _ hn2]
            by_cases he : x ≤ 9007199254740992
            · rw [if_pos he]; omega
            · rw [if_neg he]; omega
          exact rnear_grow_true x hx h _ _ _ _ _ (blen x) (by omega) w k1 k2 klen (key true _ (by rw [ht]; simp)) (ko (by rw [ht, Int.natAbs_neg, Int.natAbs_natCast]; exact rough _ (by omega) (by omega)))
      · simp only [if_true] at ez
        by_cases hc : x < 9007199254740993
        · exact rnear_turn_true x hx h _ _ _ _ _ (-1) (rcv_lt hc) (by decide) w k1 k2 (key false _ (by rw [T1, rupp _ hn, if_pos (by omega)]; rfl))
        · have hev := even (by omega)
          have ht : nearT z true false = -((x - 1 : Nat) : Int) := by rw [T1, rupp _ hn, if_neg (by omega)]; omega
          exact rnear_less_true x hx h _ _ _ _ _ (rcv x 9007199254740993) rfl (by unfold rcv; rw [if_neg hc]; split <;> decide) (by omega) w k1 k2 (key true _ (by rw [ht]; simp)) (ko (by rw [ht, Int.natAbs_neg, Int.natAbs_natCast]; exact rough _ (by omega) (by omega)))
theorem eq5_ours (c : Bool) (v : Nat) (h : v < 2 ^ 256) : eq5 c (lb 0 v) (lb 1 v) (lb 2 v) (lb 3 v) c (lb 0 v) (lb 1 v) (lb 2 v) (lb 3 v) = true := by
  rw [eq5_int c c v v h h]; exact decide_eq_true ⟨rfl, rfl⟩
end Go.Proofs.YtjlgiejggcbgbaaGreatDoor
end
