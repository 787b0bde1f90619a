/-
  DyBack DyRPrint DyTold DyPrintsW, one behind the other: a claim holds at most 60 files.
-/
import Derived.Test.YtocffoemimghhaaGreatDoorGP
import Derived.Test.YtocffoemimghhaaGreatDoorGD
import Derived.Test.YtocffoemimghhaaGreatDoorGB
section
namespace Go.Proofs.YtocffoemimghhaaGreatDoor
open Go.RowKit Go.Shelf

end Go.Proofs.YtocffoemimghhaaGreatDoor
end
section
namespace Go.Proofs.YtocffoemimghhaaGreatDoor
open Go.RowKit Go.Shelf

set_option maxHeartbeats 4000000 in
set_option maxRecDepth 100000 in
theorem rpf_yes (b E : Int) (g : Bool) (K d D0 : Nat) (hK1 : 1 ≤ K) (hK : K ≤ 64) (hE0 : -2000 ≤ E) (hE1 : E ≤ 2000) (hx : ∀ i, i ≤ K → (digs (d * 5 ^ i)).length ≤ 1000) (hl : (Lib.decDigits (d * 5 ^ K)).length ≤ 100) (w : World)
    (k1 : ∀ W, Calls Tryz.prog 66 #[.int .u64 b] W fun e w' => e = .returned (.int .i64 1) ∧ Below W.heap.size W w')
    (k2 : ∀ W, Calls Tryz.prog 72 #[.int .u64 b] W fun e w' => ∃ s', e = .returned (.tuple #[.bool g, s', .int .i64 E, .bool true]) ∧ DR w' s' D0 ∧ Below W.heap.size W w')
    (k3 : ∀ W, Calls Tryz.prog 73 #[.int .u64 b] W fun e w' => e = .returned (.int .i64 (K : Int)) ∧ Below W.heap.size W w')
    (k4 : ∀ s W, DR W s D0 → Calls Tryz.prog 74 #[s, .int .i64 (E + (K : Int))] W fun e w' => ∃ s', e = .returned s' ∧ DR w' s' d ∧ Below W.heap.size W w') :
    Calls Tryz.prog 39 #[.int .u64 b] w fun e w' => e = .returned (.tuple #[.string (if g then ⟨#[45]⟩ ++ str (wpt (Lib.decDigits (d * 5 ^ K)) K) else str (wpt (Lib.decDigits (d * 5 ^ K)) K)), .bool true]) ∧ Below w.heap.size w w' := by
  obtain ⟨D, hD⟩ : ∃ D, Lib.decDigits (d * 5 ^ K) = D := ⟨_, rfl⟩
  rw [hD] at hl ⊢
  have HP0 : Hid (dstr (d * 5 ^ K) = str D) := by unfold Hid; rw [← hD]; rfl
  clear hD
  have K1 := Lib.hid k1; have K2 := Lib.hid k2; have K3 := Lib.hid k3; have K4 := Lib.hid k4; have HX := Lib.hid hx; have HL := Lib.hid hl; clear k1 k2 k3 k4 hx hl
  have L5 : Hid ((digs 5).length ≤ 1000) := by unfold Hid; decide +kernel
  go_enter Tryz.func39, Tryz.ntmps39
  go_wp2_with fail
  (with_reducible refine (K1.out _).mono ?_)
  rintro e w1 ⟨rfl, hw1⟩
  go_wp2_with fail
  (with_reducible refine (K2.out _).mono ?_)
  rintro e w2 ⟨s2, rfl, hr2, hb⟩
  have hw2 := btr hw1 hb
  clear hb hw1
  obtain ⟨A2, c2, rfl, _⟩ := hr2.form
  have HR2 := Lib.hid hr2
  clear hr2
  generalize (digs D0).length = n2 at HR2
  go_wp2_with fail
  (with_reducible refine (K3.out _).mono ?_)
  rintro e w3 ⟨rfl, hb⟩
  have hw3 := btr hw2 hb
  have k4 := K4.out _ _ (HR2.out.keep hb)
  have HK4 := Lib.hid k4
  clear hb hw2 HR2 k4
  go_wp2_with fail
  (with_reducible refine HK4.out.mono ?_)
  rintro e w4 ⟨s4, rfl, hr4, hb⟩
  have hw4 := btr hw3 hb
  clear hb hw3
  obtain ⟨A4, c4, rfl, _⟩ := hr4.form
  have HR4 := Lib.hid hr4
  have HN4 : Hid ((digs d).length = (digs (d * 5 ^ 0)).length) := by unfold Hid; rw [Nat.pow_zero, Nat.mul_one]
  have HR5 : Hid (DR w4 (.slice A4 (digs d).length c4) (d * 5 ^ 0)) := by unfold Hid; rw [Nat.pow_zero, Nat.mul_one]; exact HR4.out
  clear hr4 HR4
  generalize (digs d).length = n4 at HN4 HR5
  go_wp2
  go_loopw [5, 9] (fun v i wr => ∃ (k n : Nat) (A : Option Addr) (c : Nat), v = .slice A n c ∧ i = .int .i64 (k : Nat) ∧ k ≤ K ∧ Hid (n = (digs (d * 5 ^ k)).length) ∧ Hid (DR wr (.slice A n c) (d * 5 ^ k)) ∧ Below w.heap.size w wr) (fun _ i _ => K - (intOf i).toNat)
  case atStart => exact ⟨0, n4, A4, c4, rfl, rfl, Nat.zero_le _, HN4, HR5, hw4⟩
  case round =>
    obtain ⟨k, n, A, c, rfl, rfl, hk, HN, HD, hw⟩ := hrel
    rename World => wr
    by_cases hlt : k < K
    · have hlti : (k : Int) < (K : Int) := by omega
      have HM := Lib.hid (rmul (DR.keep (bal (Below.refl _ _) _) HD.out) (ten_new wr 5 (by decide) (by decide) 5 rfl) (HX.out k hk) L5.out)
      go_wp2_with fail
      (with_reducible refine HM.out.mono ?_)
      rintro e w5 ⟨s5, rfl, hr5, hb⟩
      have hw5 := btr (bal hw _) hb
      obtain ⟨A5, c5, rfl, _⟩ := hr5.form
      have HR6 : Hid (DR w5 (.slice A5 (digs (d * 5 ^ k * 5)).length c5) (d * 5 ^ (k + 1))) := by unfold Hid; rw [Nat.pow_succ, ← Nat.mul_assoc]; exact hr5
      have HN6 : Hid ((digs (d * 5 ^ k * 5)).length = (digs (d * 5 ^ (k + 1))).length) := by unfold Hid; rw [Nat.pow_succ, ← Nat.mul_assoc]
      clear hr5 hb HM HD HN
      generalize (digs (d * 5 ^ k * 5)).length = n6 at *
      go_wp2
      go_roundw
      case rel => exact ⟨k + 1, n6, A5, c5, rfl, by go_num, by omega, HN6, HR6, hw5⟩
      case measure => simp [intOf]; omega
    · obtain rfl : k = K := by omega
      have HP := Lib.hid (rprint HD.out (HX.out _ (Nat.le_refl _)))
      have hl := HL.out
      rw [HP0.out] at HP
      clear HP0 HN HX HL HD L5
      go_wp2_with fail
      (with_reducible refine HP.out.mono ?_)
      rintro e w6 ⟨rfl, hb⟩
      have hw6 := btr hw hb
      clear hb hw HP
      have HS0 : Hid (str D = str (List.replicate 0 48 ++ D)) := rfl
      generalize str D = S0 at HS0
      go_wp2
      go_loop [10] (fun s => ∃ (S : ByteArray) (j : Nat), s = .string S ∧ Hid (j ≤ k + 1 - D.length) ∧ Hid (S = str (List.replicate j 48 ++ D))) (fun s => match s with | .string b => k + 1 - b.size | _ => 0)
      case atStart => exact ⟨S0, 0, rfl, Nat.zero_le _, HS0⟩
      case round =>
        obtain ⟨S, j, rfl, HJ, HS⟩ := hrel
        have hsz : S.size = j + D.length := by rw [HS.out, str_size, List.length_append, List.length_replicate]
        have hj := HJ.out
        have hSz : S.size ≤ 200 := by omega
        by_cases hle : S.size ≤ k
        · have hlei : (S.size : Int) ≤ (k : Int) := by omega
          have HS2 : Hid (⟨#[48]⟩ ++ S = str (List.replicate (j + 1) 48 ++ D)) := by
            unfold Hid
            rw [HS.out, List.replicate_succ, List.cons_append]
            exact str_app [48] _
          have HJ2 : Hid (j + 1 ≤ k + 1 - D.length) := by unfold Hid; omega
          clear hsz hj HS HJ
          go_wp2
          go_round
          case rel => exact ⟨_, j + 1, rfl, HJ2, HS2⟩
          case measure =>
            show k + 1 - (⟨#[48]⟩ ++ S : ByteArray).size < k + 1 - S.size
            rw [ByteArray.size_append]
            show k + 1 - (1 + S.size) < _
            omega
        · have hlei : ¬ (S.size : Int) ≤ (k : Int) := by omega
          have hpad : List.replicate j 48 ++ D = padl D k := by
            show _ = List.replicate (k + 1 - D.length) 48 ++ D
            rw [show j = k + 1 - D.length from by omega]
          have HT : Hid (S.extract 0 (S.size - k) ++ ⟨#[46]⟩ ++ S.extract (S.size - k) S.size = str (wpt D k)) := by
            unfold Hid
            rw [HS.out, hpad, str_take, str_drop, str_size, show (⟨#[46]⟩ : ByteArray) = str [46] from rfl, str_app, str_app]
            rfl
          obtain ⟨q, hq⟩ : ∃ q, S.size - k = q := ⟨_, rfl⟩
          rw [hq] at HT
          have hq2 : (S.size : Int) - (k : Int) = (q : Int) := by omega
          have q5 : (q : Int) ≤ (S.size : Int) := by omega
          have q6 : (0 : Int) ≤ (q : Int) := by omega
          clear hpad hsz hj HS HJ hq
          cases g
          all_goals
            go_upto_region 13 with (fail)
            go_quiet (fail)
            go_wp2
            go_ret2
            exact ⟨by rw [← HT.out]; rfl, bdn hw6 _⟩
end Go.Proofs.YtocffoemimghhaaGreatDoor
end
section
namespace Go.Proofs.YtocffoemimghhaaGreatDoor
open Go.RowKit Go.Shelf
attribute [local go_sem ↓] eql_nat

abbrev VX (k : Int) (n y : Int) : Value := .agg #[.int .i64 k, .bool false, .int .u64 n, .int .u64 0, .int .u64 0, .int .u64 0, .int .u64 y, .string ⟨#[]⟩, .slice none 0 0, .slice none 0 0]
end Go.Proofs.YtocffoemimghhaaGreatDoor
end
section
namespace Go.Proofs.YtocffoemimghhaaGreatDoor
open Go.RowKit Go.Shelf

theorem beq_str (S : ByteArray) : (S == S) = true := by
  show (S.data == S.data) = true
  exact beq_self_eq_true _
theorem rpf_no (b c : Int) (hc : (c != 1) = true) (w : World)
    (k1 : ∀ W, Calls Tryz.prog 66 #[.int .u64 b] W fun e w' => e = .returned (.int .i64 c) ∧ Below W.heap.size W w') :
    Calls Tryz.prog 39 #[.int .u64 b] w fun e w' => e = .returned (.tuple #[.string ⟨#[]⟩, .bool false]) ∧ Below w.heap.size w w' := by
  have K1 := Lib.hid k1; clear k1
  go_enter Tryz.func39, Tryz.ntmps39
  go_wp2_with fail
  (with_reducible refine (K1.out _).mono ?_)
  rintro e w1 ⟨rfl, hb⟩
  go_wp2
  go_ret2
  exact ⟨rfl, hb⟩
theorem shv_odd {b d K : Nat} (h0 : dg b ≠ 0) (ho : od b = d) (hp : pw b = -(K : Int)) : shv (dg b) (ex b + (K : Int)) = d := by
  have hpw := pw_ex h0
  unfold od at ho
  rw [if_neg h0] at ho
  unfold shv
  by_cases hc : Lib.ctz 64 (dg b) = 0
  · rw [hc, Nat.pow_zero, Nat.div_one] at ho
    rw [if_pos (by omega), show (ex b + (K : Int)).toNat = 0 from by omega, Nat.pow_zero, Nat.mul_one, ho]
  · rw [if_neg (by omega), show (-(ex b + (K : Int))).toNat = Lib.ctz 64 (dg b) from by omega, ho]
theorem rprintfloat_any (b : Nat) (hb : b < 18446744073709551616) (w : World) :
    Calls Tryz.prog 39 #[.int .u64 (b : Int)] w fun e w' => e = .returned (prans b) ∧ Below w.heap.size w w' := by
  have k1 := fun W => rclass b hb W
  unfold prans
  by_cases hc : cls b = 1
  · rw [if_pos hc]
    rw [hc] at k1
    obtain ⟨d, m, K, hd, hK1, hK2, hB, hl, ho, hw, hf⟩ := plain_parts hc
    have hd0 : d ≠ 0 := by omega
    have h0 : dg b ≠ 0 := by
      intro h
      unfold od at ho
      rw [if_pos h] at ho
      exact hd0 ho.symm
    have hp : pw b = -(K : Int) := by
      unfold beh at hB
      rw [if_pos hf] at hB
      omega
    have hd53 := odd_small hd0 hl
    have he := ex_bounds b
    obtain ⟨hs2, hsg⟩ := sg_two hb
    have k2 := fun W => rparts_fin b hb hf W
    have k3 := fun W => rbehind b hb W
    rw [hB] at k3
    have k4 := fun s W (h : DR W s (dg b)) => rshift h (dg_len b) (ex b + (K : Int)) (by omega) (by omega)
    rw [shv_odd h0 ho hp] at k4
    have hdl := dstr_le (five_fit hd53 hK2)
    rw [dstr_size] at hdl
    have h := rpf_yes (b : Int) (ex b) (sg b == 1) K d (dg b) hK1 hK2 (by omega) (by omega)
      (fun i hi => Nat.le_trans (digs_len.2 (show d * 5 ^ i < 2 ^ (32 * 8) from five_fit hd53 (by omega))) (by decide)) (by omega) w k1 k2 k3 k4
    rw [sign_text _ (sg b) (sg b == 1) rfl (by omega)] at h
    unfold ptx
    rw [ho, hB]
    exact h
  · rw [if_neg hc]
    exact rpf_no (b : Int) _ (by rw [bne_iff_ne]; omega) w k1
end Go.Proofs.YtocffoemimghhaaGreatDoor
end
