/-
  entrepotlaw1.NatEnds: the walk: it answers true for all numbers.
-/
import Derived.Test.YtjoomneaecgfoaaDoorNatTold
import Derived.Test.YtjoomneaecgfoaaDoorNatShr
import Derived.Lib.ItoaWalk
namespace Go.Proofs.YtjoomneaecgfoaaDoor
open Go.RowKit Go.Shelf
attribute [local go_sem ↓] eql_nat neq_nat

theorem half (x k : Nat) : x / 2 ^ (k + 1) = x / 2 ^ k / 2 := by rw [Nat.pow_succ, Nat.div_div_eq_div_mul]
theorem bit_iff (x k : Nat) : x.testBit k = decide (x / 2 ^ k % 2 = 1) := Nat.testBit_eq_decide_div_mod_eq
theorem ends_no {x k : Nat} (h : x.testBit k = false) : x / 2 ^ k * 2 ^ k = x / 2 ^ (k + 1) * 2 ^ (k + 1) ∧ (x / 2 ^ k = 0 ↔ x / 2 ^ (k + 1) = 0) := by
  rw [bit_iff] at h
  have h0 : x / 2 ^ k % 2 = 0 := by have := of_decide_eq_false h; omega
  rw [half, Nat.pow_succ, Nat.mul_comm (2 ^ k) 2, ← Nat.mul_assoc]
  exact ⟨by congr 1; omega, by omega⟩
theorem ends_yes {x k : Nat} (h : x.testBit k = true) : x / 2 ^ (k + 1) * 2 ^ (k + 1) + 1 * 2 ^ k = x / 2 ^ k * 2 ^ k ∧ x / 2 ^ k ≠ 0 ∧ (x / 2 ^ (k + 1) = 0 → blen x = k + 1) := by
  rw [bit_iff] at h
  have h1 : x / 2 ^ k % 2 = 1 := of_decide_eq_true h
  refine ⟨?_, by omega, fun hz => ?_⟩
  · rw [half, Nat.pow_succ, Nat.mul_comm (2 ^ k) 2, ← Nat.mul_assoc, ← Nat.add_mul]
    congr 1; omega
  · rw [half] at hz
    have e1 : x / 2 ^ k = 1 := by omega
    have hp := Nat.two_pow_pos k
    refine blen_unique (by omega) ?_ ?_
    · show 2 ^ k ≤ x
      have := Nat.div_mul_le_self x (2 ^ k)
      rw [e1] at this; omega
    · rw [Nat.pow_succ]
      have := Nat.lt_div_mul_add hp (a := x)
      rw [e1] at this; omega

set_option maxHeartbeats 2000000 in
set_option maxRecDepth 100000 in
theorem ends_any (x : Nat) (hx : x < 2 ^ 256) (w : World) (htab : Tab w) :
    Calls Tryd.prog 10 #[N4 x] w fun e w' => e = .returned (.bool true) ∧ Below w.heap.size w w' := by
  have HT := Lib.hid htab; clear htab
  go_enter Tryd.func10, Tryd.ntmps10
  go_wp2
  go_loopw [5, 4] (fun v5 v4 wr => ∃ (i n : Int) (j : Nat), v5 = .int .i64 i ∧ v4 = .int .i64 n ∧ -1 ≤ i ∧ i ≤ 255 ∧ Hid (i + 1 = (j : Int)) ∧ 0 ≤ n ∧ n ≤ 255 - i ∧ Hid (n = 0 ↔ x / 2 ^ j = 0) ∧
      Row4 wr w.heap.size (.int .u64 (lb 0 x)) (.int .u64 (lb 1 x)) (.int .u64 (lb 2 x)) (.int .u64 (lb 3 x)) ∧
      Row4 wr (w.heap.size + 1) (.int .u64 (lb 0 (x / 2 ^ j * 2 ^ j))) (.int .u64 (lb 1 (x / 2 ^ j * 2 ^ j))) (.int .u64 (lb 2 (x / 2 ^ j * 2 ^ j))) (.int .u64 (lb 3 (x / 2 ^ j * 2 ^ j))) ∧ Below w.heap.size w wr) (fun v5 _ _ => (intOf v5 + 1).toNat)
  case atStart =>
    refine ⟨255, 0, 256, rfl, rfl, by omega, by omega, rfl, by omega, by omega, ?_, Row4.alloc (Row4.new _ _ _ _ _) _, ?_, bal (bal (Below.refl _ _) _) _⟩
    · show (0 : Int) = 0 ↔ _
      simp [Nat.div_eq_of_lt hx]
    · rw [Nat.div_eq_of_lt hx, Nat.zero_mul]
      simp only [lb_zero]
      exact Row4.new' _ (by simp) _ _ _ _
  case round =>
    obtain ⟨i, n, j, rfl, rfl, hi0, hi1, HJ, hn0, hn1, HN, RA, RS, hw⟩ := hrel
    rename World => wr
    obtain ⟨ta0, ta1, ta2, ta3, ta4⟩ := RA.parts
    obtain ⟨ts0, ts1, ts2, ts3, tf0, tf1, tf2, tf3⟩ := RS.parts
    clear ta4
    by_cases hi : 0 ≤ i
    · obtain ⟨k, rfl⟩ := Int.eq_ofNat_of_zero_le hi
      obtain rfl : j = k + 1 := by have := HJ.out; omega
      cases hbit : x.testBit k with
      | false =>
        have hB : ∀ W, Calls Tryd.prog 33 #[N4 x, .int .i64 (k : Int)] W fun e w' => e = .returned (.bool false) ∧ Below W.heap.size W w' := fun W => by
          have := bit_any x hx (k : Int) W
          rw [Int.toNat_natCast, hbit] at this
          simpa using this
        have HB := Lib.hid hB
        obtain ⟨q1, q2⟩ := ends_no hbit
        have HQ1 := Lib.hid q1; have HQ2 := Lib.hid q2
        clear hB q1 q2 hbit
        go_wp2_with fail
        refine (HB.out _).mono ?_
        rintro e w1 ⟨rfl, hb⟩
        have RA1 := Row4.keep hb RA
        have RS1 := Row4.keep hb RS
        have hw1 := btr hw hb
        clear hb ta0 ta1 ta2 ta3 ts0 ts1 ts2 ts3 tf0 tf1 tf2 tf3 RA RS hw
        go_wp2
        go_roundw
        case rel => exact ⟨(k : Int) - 1, n, k, rfl, rfl, by omega, by omega, by show (k : Int) - 1 + 1 = _; omega, hn0, by omega, by show _ ↔ _; rw [HQ2.out]; exact HN.out, RA1, by rw [HQ1.out]; exact RS1, hw1⟩
        case measure => simp [intOf]
      | true =>
        have hB : ∀ W, Calls Tryd.prog 33 #[N4 x, .int .i64 (k : Int)] W fun e w' => e = .returned (.bool true) ∧ Below W.heap.size W w' := fun W => by
          have := bit_any x hx (k : Int) W
          rw [Int.toNat_natCast, hbit] at this
          simpa using this
        have HB := Lib.hid hB
        obtain ⟨q1, q2, q3⟩ := ends_yes hbit
        have HQ1 := Lib.hid q1; have HQ2 := Lib.hid q2; have HQ3 := Lib.hid q3
        have hle : x / 2 ^ k * 2 ^ k ≤ x := Nat.div_mul_le_self _ _
        have hpow : 1 * 2 ^ k < 2 ^ 256 := by rw [Nat.one_mul]; exact Nat.pow_lt_pow_right (by decide) (by omega)
        have hS : ∀ W, Calls Tryd.prog 24 #[.agg #[.int .u64 1, .int .u64 0, .int .u64 0, .int .u64 0], .int .i64 (k : Int)] W fun e w' => e = .returned (.tuple #[N4 (1 * 2 ^ k), .bool true]) ∧ Below W.heap.size W w' := fun W => by
          have := shl_ok 1 k (by decide) hpow W
          have e : N4 1 = .agg #[.int .u64 1, .int .u64 0, .int .u64 0, .int .u64 0] := by
            unfold N4
            rw [show lb 0 1 = 1 from by rw [lb0]; decide, show lb 1 1 = 0 from by rw [lb1]; decide, show lb 2 1 = 0 from by rw [lb2]; decide, show lb 3 1 = 0 from by rw [lb3]; decide]
          rw [e] at this
          exact this
        have hA : ∀ W, Calls Tryd.prog 12 #[N4 (x / 2 ^ (k + 1) * 2 ^ (k + 1)), N4 (1 * 2 ^ k)] W fun e w' => e = .returned (.tuple #[N4 (x / 2 ^ k * 2 ^ k), .bool true]) ∧ Below W.heap.size W w' := fun W => by
          have := add_ok (x / 2 ^ (k + 1) * 2 ^ (k + 1)) (1 * 2 ^ k) (by omega) hpow (by omega) W
          rw [q1] at this
          exact this
        obtain ⟨p, hp⟩ : ∃ p : Nat, p = 1 * 2 ^ k := ⟨_, rfl⟩
        obtain ⟨s', hs'⟩ : ∃ s' : Nat, s' = x / 2 ^ k * 2 ^ k := ⟨_, rfl⟩
        rw [← hp] at hS hA
        rw [← hs'] at hA
        generalize x / 2 ^ (k + 1) * 2 ^ (k + 1) = s at hA RS ts0 ts1 ts2 ts3
        have HS := Lib.hid hS; have HA := Lib.hid hA; have HE := Lib.hid hs'
        clear hB hS hA q1 q2 q3 hbit hle hpow hp hs' HQ1
        go_wp2_with fail
        refine (HB.out _).mono ?_
        rintro e w1 ⟨rfl, hb⟩
        have RA1 := Row4.keep hb RA
        have RS1 := Row4.keep hb RS
        have hw1 := btr hw hb
        clear hb ta0 ta1 ta2 ta3 ts0 ts1 ts2 ts3 tf0 tf1 tf2 tf3 RA RS hw
        go_wp2_with fail
        refine (of_any _ _).mono ?_
        rintro e w2 ⟨rfl, hb⟩
        have RA2 := Row4.keep hb RA1
        have RS2 := Row4.keep hb RS1
        have hw2 := btr hw1 hb
        clear hb RA1 RS1 hw1
        go_wp2_with fail
        refine (HS.out _).mono ?_
        rintro e w3 ⟨rfl, hb⟩
        have RA3 := Row4.keep hb RA2
        have RS3 := Row4.keep hb RS2
        have hw3 := btr hw2 hb
        clear hb RA2 RS2 hw2
        obtain ⟨ts0, ts1, ts2, ts3, ts4⟩ := (Row4.alloc RS3 (.cells #[.int .u64 (lb 0 p), .int .u64 (lb 1 p), .int .u64 (lb 2 p), .int .u64 (lb 3 p)] 24)).parts
        clear ts4
        go_wp2_with fail
        refine (HA.out _).mono ?_
        rintro e w4 ⟨rfl, hb⟩
        have RA4 := Row4.keep hb (Row4.alloc RA3 (.cells #[.int .u64 (lb 0 p), .int .u64 (lb 1 p), .int .u64 (lb 2 p), .int .u64 (lb 3 p)] 24))
        have RS4 := Row4.keep hb (Row4.alloc RS3 (.cells #[.int .u64 (lb 0 p), .int .u64 (lb 1 p), .int .u64 (lb 2 p), .int .u64 (lb 3 p)] 24))
        have hw4 := btr (bal hw3 _) hb
        clear hb RA3 RS3 hw3 ts0 ts1 ts2 ts3
        have hneA : ¬ w.heap.size = w4.heap.size := by have := RA4.lt; omega
        have hneS : ¬ w.heap.size + 1 = w4.heap.size := by have := RS4.lt; omega
        obtain ⟨tx0, tx1, tx2, tx3, fx0, fx1, fx2, fx3⟩ := (Row4.alloc RS4 (.cells #[.int .u64 (lb 0 s'), .int .u64 (lb 1 s'), .int .u64 (lb 2 s'), .int .u64 (lb 3 s')] 24)).parts
        go_upto_region 12 with (fail)
        go_name_world W5 hW5
        have RA5 : Row4 W5 w.heap.size (.int .u64 (lb 0 x)) (.int .u64 (lb 1 x)) (.int .u64 (lb 2 x)) (.int .u64 (lb 3 x)) := by
          rw [← hW5]
          exact Row4.set (Row4.set (Row4.set (Row4.set (Row4.alloc RA4 _) (by omega) _) (by omega) _) (by omega) _) (by omega) _
        have RS5 : Row4 W5 (w.heap.size + 1) (.int .u64 (lb 0 s')) (.int .u64 (lb 1 s')) (.int .u64 (lb 2 s')) (.int .u64 (lb 3 s')) := by
          rw [← hW5]
          exact Row4.set4 (Row4.alloc RS4 _) _ _ _ _
        have hw5 : Below w.heap.size w W5 := by
          rw [← hW5]
          exact bsc4 (bal hw4 _) (by omega) _ _ _ _
        clear hW5 RA4 RS4 hw4 tx0 tx1 tx2 tx3 fx0 fx1 fx2 fx3 hneA hneS HB HA HS
        obtain ⟨ta0, ta1, ta2, ta3, ta4⟩ := RA5.parts
        clear ta4
        by_cases hnz : n = 0
        · subst hnz
          have hL : ∀ W, Calls Tryd.prog 30 #[N4 x] W fun e w' => e = .returned (.int .i64 ((k : Int) + 1)) ∧ Below W.heap.size W w' := fun W => by
            have := len_any x hx W
            rw [HQ3.out (HN.out.1 rfl)] at this
            exact this
          have HL := Lib.hid hL
          clear hL
          go_wp2_with fail
          (with_reducible refine (HL.out _).mono ?_)
          rintro e w6 ⟨rfl, hb⟩
          have RA6 := Row4.keep hb RA5
          have RS6 := Row4.keep hb RS5
          have hw6 := btr hw5 hb
          clear ta0 ta1 ta2 ta3 hb RA5 RS5 hw5
          go_wp2
          go_roundw
          case rel => exact ⟨(k : Int) - 1, 1, k, rfl, rfl, by omega, by omega, by show (k : Int) - 1 + 1 = _; omega, by omega, by omega, by show (1 : Int) = 0 ↔ _; simp [HQ2.out], RA6, by rw [← HE.out]; exact RS6, hw6⟩
          case measure => simp [intOf]
        · have hnz' : (n == 0) = false := by simpa using hnz
          go_wp2
          go_roundw
          case rel => exact ⟨(k : Int) - 1, n + 1, k, rfl, rfl, by omega, by omega, by show (k : Int) - 1 + 1 = _; omega, by omega, by omega, by show n + 1 = 0 ↔ _; have := HQ2.out; omega, RA5, by rw [← HE.out]; exact RS5, hw5⟩
          case measure => simp [intOf]
    · have hi' : i = -1 := by omega
      subst hi'
      obtain rfl : j = 0 := by have := HJ.out; omega
      have hsum : x / 2 ^ 0 * 2 ^ 0 = x := by simp
      rw [hsum] at RS
      have hxe := eq4_nat x x hx hx
      rw [decide_eq_true rfl] at hxe
      have hS : ∀ W, Calls Tryd.prog 29 #[N4 x, .int .i64 256] W fun e w' => e = .returned (.agg #[.int .u64 0, .int .u64 0, .int .u64 0, .int .u64 0]) ∧ Below W.heap.size W w' := fun W => by
        have := shr_any x hx 256 (by decide) W
        rw [show ((256 : Int)).toNat = 256 from rfl, Nat.div_eq_of_lt hx] at this
        unfold N4 at this ⊢
        simp only [lb_zero] at this
        exact this
      have hzz : eq4 0 0 0 0 0 0 0 0 = true := rfl
      have HS := Lib.hid hS
      clear hS ts0 ts1 ts2 ts3 tf0 tf1 tf2 tf3 ta0 ta1 ta2 ta3 hsum
      go_wp2_with fail
      refine (told_true _ (tab_on HT.out hw)).mono ?_
      rintro e w1 ⟨rfl, hb⟩
      obtain ⟨ta0, ta1, ta2, ta3, ta4⟩ := (Row4.keep hb RA).parts
      obtain ⟨ts0, ts1, ts2, ts3, ts4⟩ := (Row4.keep hb RS).parts
      clear ta4 ts4
      have hw1 := btr hw hb
      by_cases hn : n = 0
      · subst hn
        have hx0 : x = 0 := by have := HN.out.1 rfl; simpa using this
        have hL : ∀ W, Calls Tryd.prog 30 #[N4 x] W fun e w' => e = .returned (.int .i64 0) ∧ Below W.heap.size W w' := fun W => by
          have := len_any x hx W
          rw [hx0] at this ⊢
          exact this
        have HL := Lib.hid hL
        have RA1 := Row4.keep hb RA
        clear hL hx0
        go_wp2_with fail
        (with_reducible refine (HL.out _).mono ?_)
        rintro e w2 ⟨rfl, hb2⟩
        obtain ⟨tb0, tb1, tb2, tb3, tb4⟩ := (Row4.keep hb2 RA1).parts
        clear tb4
        have hw2 := btr hw1 hb2
        go_wp2_with fail
        (with_reducible refine (HS.out _).mono ?_)
        rintro e w3 ⟨rfl, hb3⟩
        go_wp2
        go_ret
        exact ⟨rfl, btr hw2 hb3⟩
      · have hn' : 0 < n := by omega
        go_wp2_with fail
        (with_reducible refine (HS.out _).mono ?_)
        rintro e w3 ⟨rfl, hb3⟩
        go_wp2
        go_ret
        exact ⟨rfl, btr hw1 hb3⟩

end Go.Proofs.YtjoomneaecgfoaaDoor
