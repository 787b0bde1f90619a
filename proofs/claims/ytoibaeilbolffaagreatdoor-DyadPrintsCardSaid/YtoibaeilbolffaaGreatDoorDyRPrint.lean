/-
  The reference's PrintFloat, where it has a text.
-/
import Derived.Test.YtoibaeilbolffaaGreatDoorDyBack
namespace Go.Proofs.YtoibaeilbolffaaGreatDoor
open Go.RowKit Go.Shelf

set_option maxHeartbeats 4000000 in
set_option maxRecDepth 100000 in
theorem rpf_yes (b E : Int) (g : Bool) (K d D0 : Nat) (hK1 : 1 ≤ K) (hK : K ≤ 64) (hE0 : -2000 ≤ E) (hE1 : E ≤ 2000) (hx : ∀ i, i ≤ K → (digs (d * 5 ^ i)).length ≤ 1000) (hl : (Lib.decDigits (d * 5 ^ K)).length ≤ 100) (w : World)
    (k1 : ∀ W, Calls Tryz.prog 32 #[.int .u64 b] W fun e w' => e = .returned (.int .i64 1) ∧ Below W.heap.size W w')
    (k2 : ∀ W, Calls Tryz.prog 33 #[.int .u64 b] W fun e w' => ∃ s', e = .returned (.tuple #[.bool g, s', .int .i64 E, .bool true]) ∧ DR w' s' D0 ∧ Below W.heap.size W w')
    (k3 : ∀ W, Calls Tryz.prog 34 #[.int .u64 b] W fun e w' => e = .returned (.int .i64 (K : Int)) ∧ Below W.heap.size W w')
    (k4 : ∀ s W, DR W s D0 → Calls Tryz.prog 35 #[s, .int .i64 (E + (K : Int))] W fun e w' => ∃ s', e = .returned s' ∧ DR w' s' d ∧ Below W.heap.size W w') :
    Calls Tryz.prog 12 #[.int .u64 b] w fun e w' => e = .returned (.tuple #[.string (if g then ⟨#[45]⟩ ++ str (wpt (Lib.decDigits (d * 5 ^ K)) K) else str (wpt (Lib.decDigits (d * 5 ^ K)) K)), .bool true]) ∧ Below w.heap.size w w' := by
  obtain ⟨D, hD⟩ : ∃ D, Lib.decDigits (d * 5 ^ K) = D := ⟨_, rfl⟩
  rw [hD] at hl ⊢
  have HP0 : Hid (dstr (d * 5 ^ K) = str D) := by unfold Hid; rw [← hD]; rfl
  clear hD
  have K1 := Lib.hid k1; have K2 := Lib.hid k2; have K3 := Lib.hid k3; have K4 := Lib.hid k4; have HX := Lib.hid hx; have HL := Lib.hid hl; clear k1 k2 k3 k4 hx hl
  have L5 : Hid ((digs 5).length ≤ 1000) := by unfold Hid; decide +kernel
  go_enter Tryz.func12, Tryz.ntmps12
  go_wp2_with fail
  (with_reducible refine (K1.out _).mono ?_)
  rintro e w1 ⟨rfl, hw1⟩
  go_wp2_with fail
  (with_reducible refine (K2.out _).mono ?_)
  rintro e w2 ⟨s2, rfl, hr2, hb⟩
  have hw2 := btr hw1 hb
  clear hb hw1
  obtain ⟨A2, c2, rfl, _⟩ := hr2.form
  have HR2 := Lib.hid hr2
  clear hr2
  generalize (digs D0).length = n2 at HR2
  go_wp2_with fail
  (with_reducible refine (K3.out _).mono ?_)
  rintro e w3 ⟨rfl, hb⟩
  have hw3 := btr hw2 hb
  have k4 := K4.out _ _ (HR2.out.keep hb)
  have HK4 := Lib.hid k4
  clear hb hw2 HR2 k4
  go_wp2_with fail
  (with_reducible refine HK4.out.mono ?_)
  rintro e w4 ⟨s4, rfl, hr4, hb⟩
  have hw4 := btr hw3 hb
  clear hb hw3
  obtain ⟨A4, c4, rfl, _⟩ := hr4.form
  have HR4 := Lib.hid hr4
  have HN4 : Hid ((digs d).length = (digs (d * 5 ^ 0)).length) := by unfold Hid; rw [Nat.pow_zero, Nat.mul_one]
  have HR5 : Hid (DR w4 (.slice A4 (digs d).length c4) (d * 5 ^ 0)) := by unfold Hid; rw [Nat.pow_zero, Nat.mul_one]; exact HR4.out
  clear hr4 HR4
  generalize (digs d).length = n4 at HN4 HR5
  go_wp2
  go_loopw [5, 9] (fun v i wr => ∃ (k n : Nat) (A : Option Addr) (c : Nat), v = .slice A n c ∧ i = .int .i64 (k : Nat) ∧ k ≤ K ∧ Hid (n = (digs (d * 5 ^ k)).length) ∧ Hid (DR wr (.slice A n c) (d * 5 ^ k)) ∧ Below w.heap.size w wr) (fun _ i _ => K - (intOf i).toNat)
  case atStart => exact ⟨0, n4, A4, c4, rfl, rfl, Nat.zero_le _, HN4, HR5, hw4⟩
  case round =>
    obtain ⟨k, n, A, c, rfl, rfl, hk, HN, HD, hw⟩ := hrel
    rename World => wr
    by_cases hlt : k < K
    · have hlti : (k : Int) < (K : Int) := by omega
      have HM := Lib.hid (rmul (DR.keep (bal (Below.refl _ _) _) HD.out) (ten_new wr 5 (by decide) (by decide) 5 rfl) (HX.out k hk) L5.out)
      go_wp2_with fail
      (with_reducible refine HM.out.mono ?_)
      rintro e w5 ⟨s5, rfl, hr5, hb⟩
      have hw5 := btr (bal hw _) hb
      obtain ⟨A5, c5, rfl, _⟩ := hr5.form
      have HR6 : Hid (DR w5 (.slice A5 (digs (d * 5 ^ k * 5)).length c5) (d * 5 ^ (k + 1))) := by unfold Hid; rw [Nat.pow_succ, ← Nat.mul_assoc]; exact hr5
      have HN6 : Hid ((digs (d * 5 ^ k * 5)).length = (digs (d * 5 ^ (k + 1))).length) := by unfold Hid; rw [Nat.pow_succ, ← Nat.mul_assoc]
      clear hr5 hb HM HD HN
      generalize (digs (d * 5 ^ k * 5)).length = n6 at *
      go_wp2
      go_roundw
      case rel => exact ⟨k + 1, n6, A5, c5, rfl, by go_num, by omega, HN6, HR6, hw5⟩
      case measure => simp [intOf]; omega
    · obtain rfl : k = K := by omega
      have HP := Lib.hid (rprint HD.out (HX.out _ (Nat.le_refl _)))
      have hl := HL.out
      rw [HP0.out] at HP
      clear HP0 HN HX HL HD L5
      go_wp2_with fail
      (with_reducible refine HP.out.mono ?_)
      rintro e w6 ⟨rfl, hb⟩
      have hw6 := btr hw hb
      clear hb hw HP
      have HS0 : Hid (str D = str (List.replicate 0 48 ++ D)) := rfl
      generalize str D = S0 at HS0
      go_wp2
      go_loop [10] (fun s => ∃ (S : ByteArray) (j : Nat), s = .string S ∧ Hid (j ≤ k + 1 - D.length) ∧ Hid (S = str (List.replicate j 48 ++ D))) (fun s => match s with | .string b => k + 1 - b.size | _ => 0)
      case atStart => exact ⟨S0, 0, rfl, Nat.zero_le _, HS0⟩
      case round =>
        obtain ⟨S, j, rfl, HJ, HS⟩ := hrel
        have hsz : S.size = j + D.length := by rw [HS.out, str_size, List.length_append, List.length_replicate]
        have hj := HJ.out
        have hSz : S.size ≤ 200 := by omega
        by_cases hle : S.size ≤ k
        · have hlei : (S.size : Int) ≤ (k : Int) := by omega
          have HS2 : Hid (⟨#[48]⟩ ++ S = str (List.replicate (j + 1) 48 ++ D)) := by
            unfold Hid
            rw [HS.out, List.replicate_succ, List.cons_append]
            exact str_app [48] _
          have HJ2 : Hid (j + 1 ≤ k + 1 - D.length) := by unfold Hid; omega
          clear hsz hj HS HJ
          go_wp2
          go_round
          case rel => exact ⟨_, j + 1, rfl, HJ2, HS2⟩
          case measure =>
            show k + 1 - (⟨#[48]⟩ ++ S : ByteArray).size < k + 1 - S.size
            rw [ByteArray.size_append]
            show k + 1 - (1 + S.size) < _
            omega
        · have hlei : ¬ (S.size : Int) ≤ (k : Int) := by omega
          have hpad : List.replicate j 48 ++ D = padl D k := by
            show _ = List.replicate (k + 1 - D.length) 48 ++ D
            rw [show j = k + 1 - D.length from by omega]
          have HT : Hid (S.extract 0 (S.size - k) ++ ⟨#[46]⟩ ++ S.extract (S.size - k) S.size = str (wpt D k)) := by
            unfold Hid
            rw [HS.out, hpad, str_take, str_drop, str_size, show (⟨#[46]⟩ : ByteArray) = str [46] from rfl, str_app, str_app]
            rfl
          obtain ⟨q, hq⟩ : ∃ q, S.size - k = q := ⟨_, rfl⟩
          rw [hq] at HT
          have hq2 : (S.size : Int) - (k : Int) = (q : Int) := by omega
          have q5 : (q : Int) ≤ (S.size : Int) := by omega
          have q6 : (0 : Int) ≤ (q : Int) := by omega
          clear hpad hsz hj HS HJ hq
          cases g
          all_goals
            go_upto_region 13 with (fail)
            go_quiet (fail)
            go_wp2
            go_ret2
            exact ⟨by rw [← HT.out]; rfl, bdn hw6 _⟩
end Go.Proofs.YtoibaeilbolffaaGreatDoor
