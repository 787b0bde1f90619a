/-
  entrepotlaw4.DyadParts answers true for every n, k and sign.
-/
import Derived.Test.YtoibaeilbolffaaGreatDoorDyTold
import Derived.Test.YtoibaeilbolffaaGreatDoorDyBack
import Derived.Deep.Cut
import Derived.Deep.DeepCutAuto
namespace Go.Proofs.YtoibaeilbolffaaGreatDoor
open Go.RowKit Go.Shelf

set_option maxHeartbeats 4000000 in
set_option maxRecDepth 20000 in
theorem parts_walk (n k U B : Int) (neg : Bool) (d L r F M j : Nat) (S : ByteArray) (A z x0 : Nat) (w : World)
    (hn : bits .or .u64 (bits .and .u64 n 9007199254740991) 1 = (d : Int)) (_hd : d < 9007199254740992)
    (hU : IntKind.u64.wrap k = U) (hU0 : 0 ≤ U) (hU1 : U < 18446744073709551616) (hr : U % 64 = (r : Int)) (hr1 : r < 64)
    (hL : L ≤ 52) (hF : (L : Int) - (1 + (r : Int)) + 1023 = (F : Int)) (hF1 : F < 2048)
    (hj : 52 - (L : Int) = (j : Int)) (hM : (d : Int) * 2 ^ j = (M : Int)) (hM1 : M < 9007199254740992)
    (s0 : ∀ b : Nat, L < b → b ≤ 52 → bits .and .u64 ((d : Int) / 2 ^ b) 1 = 0)
    (s1 : bits .and .u64 ((d : Int) / 2 ^ L) 1 = 1)
    (hB : (if neg then bits .or .u64 (bits .or .u64 ((F : Int) * 4503599627370496) (bits .and .u64 (M : Int) 4503599627370495)) 9223372036854775808 else bits .or .u64 ((F : Int) * 4503599627370496) (bits .and .u64 (M : Int) 4503599627370495)) = B)
    (hS : S.size ≤ 400) (hE : (S.size : Int) - (A : Int) - 1 = 1 + (r : Int)) (hz : (S.size : Int) - 1 = (z : Int))
    (hp : ∀ i, i < A → ∃ (h : i < S.size) (x : Nat), S[i].toNat = x ∧ x < 256 ∧ x ≠ 46) (hA : ∃ h : A < S.size, S[A].toNat = 46) (hlast : ∃ h : z < S.size, S[z].toNat = 53) (hfirst : ∃ h : 0 < S.size, S[0].toNat = x0) (hx0 : ((x0 : Int) == 45) = neg)
    (k1 : ∀ W, Below w.heap.size w W → Calls Tryz.prog 11 #[.int .u64 B] W fun e w' => e = .returned (.tuple #[.string S, .bool true]) ∧ Below W.heap.size W w')
    (k2 : ∀ W, Below w.heap.size w W → Calls Tryz.prog 8 #[.string S] W fun e w' => e = .returned (.tuple #[VX 4 0 B, .int .i64 0]) ∧ Below W.heap.size W w')
    (k3 : ∀ W, Below w.heap.size w W → Calls Tryz.prog 7 #[] W fun e w' => e = .returned (.bool true) ∧ Below W.heap.size W w') :
    Calls Tryz.prog 5 #[.int .u64 n, .int .i64 k, .bool neg] w fun e w' => e = .returned (.bool true) ∧ Below w.heap.size w w' := by
  have S0 := Lib.hid s0; have S1 := Lib.hid s1; clear s0 s1
  have HP := Lib.hid hp; have HA := Lib.hid hA; have HZ := Lib.hid hlast; have H0 := Lib.hid hfirst; have HE := Lib.hid hE; have HS := Lib.hid hS; have HZ2 := Lib.hid hz
  have K1 := Lib.hid k1; have K2 := Lib.hid k2; have K3 := Lib.hid k3; have HB := Lib.hid hB
  clear hp hA hlast hfirst hE hS hz k1 k2 k3 hB
  have HX := Lib.hid hx0
  clear hx0
  have HF := Lib.hid hF; have HJ := Lib.hid hj; have HM := Lib.hid hM; clear hF hj hM
  go_enter Tryz.func5, Tryz.ntmps5
  go_wp2
  go_loop [10] (fun i => ∃ b : Nat, L ≤ b ∧ b ≤ 52 ∧ i = .int .i64 (b : Nat)) (fun i => (intOf i).toNat)
  case atStart => exact ⟨52, hL, Nat.le_refl _, rfl⟩
  case round =>
    obtain ⟨b, hb0, hb1, rfl⟩ := hrel
    have t1 : ((b : Int)).toNat = b := Int.toNat_natCast b
    have b0 : (0 : Int) ≤ (b : Int) := by omega
    have b3 : (b : Int) ≤ 64 := by omega
    clear hn hU hr
    by_cases hlt : L < b
    · have s0 := S0.out b hlt hb1
      clear S0 S1 HF HJ HM
      go_wp2
      go_round
      case rel => exact ⟨b - 1, by omega, by omega, by go_num⟩
      case measure => simp [intOf]; omega
    · obtain rfl : b = L := by omega
      have s1 := S1.out
      have hF := HF.out
      have hj := HJ.out
      have hM := HM.out
      have t2 : ((j : Int)).toNat = j := Int.toNat_natCast j
      have j0 : (0 : Int) ≤ (j : Int) := by omega
      have j3 : (j : Int) ≤ 64 := by omega
      go_upto_region 8 with (fail)
      clear t1 t2 b0 b3 j0 j3 hj hM hF s1 S0 S1 HF HJ HM hb0 hb1 hlt
      cases neg
      all_goals
        have hB := HB.out
        simp only [Bool.false_eq_true, if_true, if_false] at hB
        go_wp2_with fail
        (with_reducible refine (K1.out _ (Below.refl _ _)).mono ?_)
        rintro e w1 ⟨rfl, hw1⟩
        go_wp2_with fail
        (with_reducible refine (K2.out _ hw1).mono ?_)
        rintro e w2 ⟨rfl, hb⟩
        have hw2 := btr hw1 hb
        clear hb hw1 K1 K2 HB
        have V := RowV.new w2 (.int .i64 4) (.bool false) (.int .u64 0) (.int .u64 0) (.int .u64 0) (.int .u64 0) (.int .u64 B) (.string ⟨#[]⟩) (.slice none 0 0) (.slice none 0 0)
        go_wp2
        go_loop [15] (fun i => ∃ q : Nat, q ≤ A ∧ i = .int .i64 (q : Nat)) (fun i => A - (intOf i).toNat)
        case atStart => exact ⟨0, Nat.zero_le _, rfl⟩
        case round =>
          obtain ⟨q, hq, rfl⟩ := hrel
          obtain ⟨hAs, hA46⟩ := HA.out
          have hS := HS.out
          have hql : (q : Int) < (S.size : Int) := by omega
          by_cases hqa : q < A
          · obtain ⟨hi, x, ex, hx, hne⟩ := HP.out q hqa
            have hne2 : ((x : Int) != 46) = true := by rw [bne_iff_ne]; omega
            clear hA46
            go_wp2
            go_round
            case rel => exact ⟨q + 1, by omega, by go_num⟩
            case measure => simp [intOf]; omega
          · obtain rfl : q = A := by omega
            go_wp2_with fail
            (with_reducible refine (K3.out _ (bal hw2 _)).mono ?_)
            rintro e w3 ⟨rfl, hb⟩
            have V3 := RowV.keep hb V
            have hw3 := btr (bal hw2 _) hb
            obtain ⟨c0, c1, c2, c3, c4, c5, c6, c7, c8, c9⟩ := V3.parts
            obtain ⟨hzs, hz53⟩ := HZ.out
            obtain ⟨h0s, hx⟩ := H0.out
            have hE := HE.out
            have hx0 := HX.out
            have hz := HZ2.out
            go_wp2
            go_ret
            exact ⟨rfl, hw3⟩
end Go.Proofs.YtoibaeilbolffaaGreatDoor
