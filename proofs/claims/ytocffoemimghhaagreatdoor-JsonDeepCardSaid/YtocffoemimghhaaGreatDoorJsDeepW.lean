/-
  entrepotlaw7.JsonDeep answers true for every number.
-/
import Derived.Test.YtocffoemimghhaaGreatDoorJsDeepD
namespace Go.Proofs.YtocffoemimghhaaGreatDoor
open Go.RowKit Go.Shelf
set_option linter.unusedVariables false

/-- P, k times. -/
def rp (P : List UInt8) : Nat → List UInt8
  | 0 => []
  | k + 1 => rp P k ++ P
theorem rp_len (P : List UInt8) : ∀ k, (rp P k).length = k * P.length := by
  intro k
  induction k with
  | zero => rw [Nat.zero_mul]; rfl
  | succ k ih => show (rp P k ++ P).length = _; rw [List.length_append, ih, Nat.succ_mul]
theorem rp_front (P : List UInt8) : ∀ k, rp P k ++ P = P ++ rp P k := by
  intro k
  induction k with
  | zero => show [] ++ P = P ++ []; rw [List.nil_append, List.append_nil]
  | succ k ih => show (rp P k ++ P) ++ P = P ++ (rp P k ++ P); rw [ih, List.append_assoc, ih]
theorem aT_eq : ∀ (k : Nat) (R : List UInt8), aT k R = rp [91] (k + 1) ++ (rp [93] (k + 1) ++ R) := by
  intro k
  induction k with
  | zero => intro R; rfl
  | succ k ih =>
    intro R
    show 91 :: aT k (93 :: R) = (rp [91] (k + 1) ++ [91]) ++ ((rp [93] (k + 1) ++ [93]) ++ R)
    rw [ih, rp_front, List.append_assoc [91], List.append_assoc (rp [93] (k + 1))]
    rfl
theorem oT_eq : ∀ (k : Nat) (R : List UInt8), oT k R = rp [123, 34, 97, 34, 58] k ++ ([48] ++ (rp [125] k ++ R)) := by
  intro k
  induction k with
  | zero => intro R; rfl
  | succ k ih =>
    intro R
    show [123, 34, 97, 34, 58] ++ oT k (125 :: R) = (rp [123, 34, 97, 34, 58] k ++ [123, 34, 97, 34, 58]) ++ ([48] ++ ((rp [125] k ++ [125]) ++ R))
    rw [ih, rp_front, List.append_assoc [123, 34, 97, 34, 58], List.append_assoc (rp [125] k)]
    rfl
theorem tx_a {K : Nat} (h : 10 ≤ K) : rp [91] K ++ rp [93] K = aT (K - 1) [] := by
  rw [aT_eq, List.append_nil, Nat.sub_add_cancel (by omega)]
theorem tx_o (K : Nat) : (rp [123, 34, 97, 34, 58] K ++ [48]) ++ rp [125] K = oT K [] := by
  rw [oT_eq, List.append_nil, List.append_assoc]
theorem tx_ac {K : Nat} (h : 10 ≤ K) : rp [91] K ++ rp [93] (K - 1) = 91 :: aT (K - 2) [] := by
  obtain ⟨j, rfl⟩ : ∃ j, K = j + 2 := ⟨K - 2, by omega⟩
  rw [aT_eq, List.append_nil]
  show (rp [91] (j + 1) ++ [91]) ++ rp [93] (j + 1) = [91] ++ (rp [91] (j + 1) ++ rp [93] (j + 1))
  rw [rp_front, List.append_assoc]
theorem tx_oc {K : Nat} (h : 10 ≤ K) : (rp [123, 34, 97, 34, 58] K ++ [48]) ++ rp [125] (K - 1) = oL (K - 1) [] := by
  obtain ⟨j, rfl⟩ : ∃ j, K = j + 1 := ⟨K - 1, by omega⟩
  show ((rp [123, 34, 97, 34, 58] j ++ [123, 34, 97, 34, 58]) ++ [48]) ++ rp [125] j = [123, 34, 97, 34, 58] ++ oT j []
  rw [oT_eq, List.append_nil, rp_front, List.append_assoc, List.append_assoc [123, 34, 97, 34, 58]]
set_option maxRecDepth 100000 in
set_option maxHeartbeats 4000000 in
theorem jdeep_a (z : Int) (w : World) (hT : Tabs w) : Calls Tryz.prog 5 #[.int .i64 z, .bool false, .bool false] w fun e w' => e = .returned (.bool true) ∧ Below w.heap.size w w' := by
  have HT := Lib.hid hT
  clear hT
  obtain ⟨U, hU⟩ : ∃ U, IntKind.u64.wrap z = U := ⟨_, rfl⟩
  have u0 : 0 ≤ U ∧ U < 18446744073709551616 := by rw [← hU, IntKind.wrap_u64]; omega
  obtain ⟨u1, u2⟩ := u0
  obtain ⟨R, hR⟩ : ∃ R, U % 291 = R := ⟨_, rfl⟩
  have r0 : 0 ≤ R ∧ R < 291 := by omega
  obtain ⟨r1, r2⟩ := r0
  obtain ⟨K, hK⟩ : ∃ K : Nat, 10 + R = (K : Int) := ⟨(10 + R).toNat, by omega⟩
  have k1 : 10 ≤ K := by omega
  have k2 : K ≤ 300 := by omega
  have HD := Lib.hid (dans_arr w HT.out.2 (K - 1) (by omega))
  have hP : ((⟨#[91]⟩ : ByteArray).size : Int) ≤ 8388608 := by decide
  go_enter Tryz.func5, Tryz.ntmps5
  go_wp2
  clear hU u1 u2 hR r1 r2
  go_loopw [8, 9] (fun sv iv wr => ∃ (k : Nat) (SB : ByteArray), k ≤ K ∧ iv = .int .i64 k ∧ sv = .string SB ∧ (SB.size : Int) ≤ 8388608 ∧ Hid (SB = str (rp [91] k)) ∧ Hid (Below w.heap.size w wr)) (fun _ i _ => K - (intOf i).toNat)
  case atStart => exact ⟨0, ⟨#[]⟩, Nat.zero_le _, rfl, rfl, by decide, Lib.hid rfl, Lib.hid (Below.refl _ _)⟩
  case round =>
    obtain ⟨k, SB, hk, rfl, rfl, hS8, HS, BW⟩ := hrel
    rename World => wr
    by_cases hlt : k < K
    · have hlt2 : (k : Int) < (K : Int) := by omega
      obtain ⟨SB2, hSB⟩ : ∃ X, SB ++ ⟨#[91]⟩ = X := ⟨_, rfl⟩
      have HQ2 : Hid (SB2 = str (rp [91] (k + 1))) := Lib.hid (by rw [← hSB, HS.out, show (⟨#[91]⟩ : ByteArray) = str [91] from rfl, str_app]; rfl)
      have hS28 : (SB2.size : Int) ≤ 8388608 := by rw [HQ2.out, str_size, rp_len]; simp only [List.length_cons, List.length_nil]; omega
      go_wp2
      go_roundw
      case rel => exact ⟨k + 1, SB2, by omega, by go_num, rfl, hS28, HQ2, BW⟩
      case measure => simp [intOf]; omega
    · have hge : ¬ (k : Int) < (K : Int) := by omega
      have hkK : k = K := by omega
      have HM : Hid (SB = str (rp [91] K)) := Lib.hid (by rw [HS.out, hkK])
      clear hP
      have hQ : ((⟨#[93]⟩ : ByteArray).size : Int) ≤ 8388608 := by decide
      go_wp2
      go_loopw [8, 10] (fun sv iv wr => ∃ (j : Nat) (SC : ByteArray), j ≤ K ∧ iv = .int .i64 j ∧ sv = .string SC ∧ (SC.size : Int) ≤ 8388608 ∧ Hid (SC = str (rp [91] K ++ rp [93] j)) ∧ Hid (Below w.heap.size w wr)) (fun _ i _ => K - (intOf i).toNat)
      case atStart => exact ⟨0, SB, Nat.zero_le _, rfl, rfl, hS8, Lib.hid (by show _ = str (rp [91] K ++ []); rw [List.append_nil]; exact HM.out), BW⟩
      case round =>
        obtain ⟨j, SC, hj, rfl, rfl, hC8, HC, BQ⟩ := hrel
        rename World => wq
        clear hge hkK HS HM BW hS8
        by_cases hlt3 : j < K
        · have hlt4 : (j : Int) < (K : Int) := by omega
          obtain ⟨SC2, hSC⟩ : ∃ X, SC ++ ⟨#[93]⟩ = X := ⟨_, rfl⟩
          have HC2 : Hid (SC2 = str (rp [91] K ++ rp [93] (j + 1))) := Lib.hid (by rw [← hSC, HC.out, show (⟨#[93]⟩ : ByteArray) = str [93] from rfl, str_app, List.append_assoc]; rfl)
          have hC28 : (SC2.size : Int) ≤ 8388608 := by rw [HC2.out, str_size]; simp only [List.length_append, rp_len, List.length_cons, List.length_nil]; omega
          go_wp2
          go_roundw
          case rel => exact ⟨j + 1, SC2, by omega, by go_num, rfl, hC28, HC2, BQ⟩
          case measure => simp [intOf]; omega
        · obtain hjK : j = K := by omega
          have hge2 : ¬ (j : Int) < (K : Int) := by omega
          have hTX : str (aT (K - 1) []) = SC := by rw [HC.out, hjK, tx_a k1]
          have hc1 := Lib.run_convert_string_bytes (P := Tryz.prog) wq 9 33 5 SC (u := .string) (by kernel_rfl) (by kernel_rfl) (by kernel_rfl)
          have HY1 := Lib.hid (by_world wq (aT (K - 1) []))
          have HZ1 := Lib.hid (below_bytes wq 5 SC)
          rw [hTX] at HY1
          obtain ⟨cp1, hcp1⟩ : ∃ cp, grownCap wq SC.size 0 5 = cp := ⟨_, rfl⟩
          obtain ⟨W1, hW1⟩ : ∃ W1, Lib.bytesWorld wq 5 SC = W1 := ⟨_, rfl⟩
          rw [hcp1, hW1] at hc1
          rw [hW1] at HY1 HZ1
          clear hcp1 hW1 hjK hlt3 HC hQ
          by_cases h16 : (16 : Int) < (K : Int)
          · have HDE := HD.out
            rw [if_pos (by omega)] at HDE
            have KD1 := Lib.hid (HDE W1 wq.heap.size cp1 (btr BQ.out HZ1.out) HY1.out)
            rw [hTX] at KD1
            clear HDE HY1 hTX
            go_wp2_with fail
            ((with_reducible refine (KD1.out).mono ?_); rintro e w1 ⟨kd1, bg1, y1, p1a, p1b, p1c, bi1, s1, la1, n1, lc1, ka1, m1, kc1, rfl, hb1⟩)
            have BW1 : Hid (Below w.heap.size w (w1.alloc (.cells #[.int .i64 kd1, .bool bg1, .int .u64 y1, .int .u64 p1a, .int .u64 p1b, .int .u64 p1c, .int .u64 bi1, .string s1, .slice la1 n1 lc1, .slice ka1 m1 kc1] 30))) := Lib.hid (bal (btr (btr BQ.out HZ1.out) hb1) _)
            have R1 := Lib.hid (Row10.new w1 (.int .i64 kd1) (.bool bg1) (.int .u64 y1) (.int .u64 p1a) (.int .u64 p1b) (.int .u64 p1c) (.int .u64 bi1) (.string s1) (.slice la1 n1 lc1) (.slice ka1 m1 kc1))
            have KT := Lib.hid (told7_true (w1.alloc (.cells #[.int .i64 kd1, .bool bg1, .int .u64 y1, .int .u64 p1a, .int .u64 p1b, .int .u64 p1c, .int .u64 bi1, .string s1, .slice la1 n1 lc1, .slice ka1 m1 kc1] 30)) (tabs_on HT.out BW1.out))
            clear hb1 KD1 hc1
            go_wp2_with (go_at_call 8; ((with_reducible refine (KT.out).mono ?_); rintro e w4 ⟨rfl, hb4⟩; have R4 := Row10.keep hb4 R1.out; have B4 := Lib.hid (btr BW1.out hb4); obtain ⟨p0, p1, p2, p3, p4, p5, p6, p7, p8, p9⟩ := R4.parts; clear hb4))
            go_ret
            exact ⟨rfl, B4.out⟩
          · have HDE := HD.out
            rw [if_neg (by omega)] at HDE
            have KD1 := Lib.hid (HDE W1 wq.heap.size cp1 (btr BQ.out HZ1.out) HY1.out)
            rw [hTX] at KD1
            clear HDE HY1 hTX
            go_wp2_with fail
            ((with_reducible refine (KD1.out).mono ?_); rintro e w1 ⟨kd1, bg1, y1, p1a, p1b, p1c, bi1, s1, la1, n1, lc1, ka1, m1, kc1, rfl, hb1⟩)
            have BW1 : Hid (Below w.heap.size w (w1.alloc (.cells #[.int .i64 kd1, .bool bg1, .int .u64 y1, .int .u64 p1a, .int .u64 p1b, .int .u64 p1c, .int .u64 bi1, .string s1, .slice la1 n1 lc1, .slice ka1 m1 kc1] 30))) := Lib.hid (bal (btr (btr BQ.out HZ1.out) hb1) _)
            have R1 := Lib.hid (Row10.new w1 (.int .i64 kd1) (.bool bg1) (.int .u64 y1) (.int .u64 p1a) (.int .u64 p1b) (.int .u64 p1c) (.int .u64 bi1) (.string s1) (.slice la1 n1 lc1) (.slice ka1 m1 kc1))
            have KT := Lib.hid (told7_true (w1.alloc (.cells #[.int .i64 kd1, .bool bg1, .int .u64 y1, .int .u64 p1a, .int .u64 p1b, .int .u64 p1c, .int .u64 bi1, .string s1, .slice la1 n1 lc1, .slice ka1 m1 kc1] 30)) (tabs_on HT.out BW1.out))
            clear hb1 KD1 hc1
            go_wp2_with (go_at_call 8; ((with_reducible refine (KT.out).mono ?_); rintro e w4 ⟨rfl, hb4⟩; have R4 := Row10.keep hb4 R1.out; have B4 := Lib.hid (btr BW1.out hb4); obtain ⟨p0, p1, p2, p3, p4, p5, p6, p7, p8, p9⟩ := R4.parts; clear hb4))
            go_ret
            exact ⟨rfl, B4.out⟩
set_option maxRecDepth 100000 in
set_option maxHeartbeats 4000000 in
theorem jdeep_ac (z : Int) (w : World) (hT : Tabs w) : Calls Tryz.prog 5 #[.int .i64 z, .bool false, .bool true] w fun e w' => e = .returned (.bool true) ∧ Below w.heap.size w w' := by
  have HT := Lib.hid hT
  clear hT
  obtain ⟨U, hU⟩ : ∃ U, IntKind.u64.wrap z = U := ⟨_, rfl⟩
  have u0 : 0 ≤ U ∧ U < 18446744073709551616 := by rw [← hU, IntKind.wrap_u64]; omega
  obtain ⟨u1, u2⟩ := u0
  obtain ⟨R, hR⟩ : ∃ R, U % 291 = R := ⟨_, rfl⟩
  have r0 : 0 ≤ R ∧ R < 291 := by omega
  obtain ⟨r1, r2⟩ := r0
  obtain ⟨K, hK⟩ : ∃ K : Nat, 10 + R = (K : Int) := ⟨(10 + R).toNat, by omega⟩
  have k1 : 10 ≤ K := by omega
  have k2 : K ≤ 300 := by omega
  have HD := Lib.hid (dans_acut w HT.out.2 (K - 2) (by omega))
  have hP : ((⟨#[91]⟩ : ByteArray).size : Int) ≤ 8388608 := by decide
  go_enter Tryz.func5, Tryz.ntmps5
  go_wp2
  clear hU u1 u2 hR r1 r2
  go_loopw [8, 9] (fun sv iv wr => ∃ (k : Nat) (SB : ByteArray), k ≤ K ∧ iv = .int .i64 k ∧ sv = .string SB ∧ (SB.size : Int) ≤ 8388608 ∧ Hid (SB = str (rp [91] k)) ∧ Hid (Below w.heap.size w wr)) (fun _ i _ => K - (intOf i).toNat)
  case atStart => exact ⟨0, ⟨#[]⟩, Nat.zero_le _, rfl, rfl, by decide, Lib.hid rfl, Lib.hid (Below.refl _ _)⟩
  case round =>
    obtain ⟨k, SB, hk, rfl, rfl, hS8, HS, BW⟩ := hrel
    rename World => wr
    by_cases hlt : k < K
    · have hlt2 : (k : Int) < (K : Int) := by omega
      obtain ⟨SB2, hSB⟩ : ∃ X, SB ++ ⟨#[91]⟩ = X := ⟨_, rfl⟩
      have HQ2 : Hid (SB2 = str (rp [91] (k + 1))) := Lib.hid (by rw [← hSB, HS.out, show (⟨#[91]⟩ : ByteArray) = str [91] from rfl, str_app]; rfl)
      have hS28 : (SB2.size : Int) ≤ 8388608 := by rw [HQ2.out, str_size, rp_len]; simp only [List.length_cons, List.length_nil]; omega
      go_wp2
      go_roundw
      case rel => exact ⟨k + 1, SB2, by omega, by go_num, rfl, hS28, HQ2, BW⟩
      case measure => simp [intOf]; omega
    · have hge : ¬ (k : Int) < (K : Int) := by omega
      have hkK : k = K := by omega
      have HM : Hid (SB = str (rp [91] K)) := Lib.hid (by rw [HS.out, hkK])
      clear hP
      have hQ : ((⟨#[93]⟩ : ByteArray).size : Int) ≤ 8388608 := by decide
      go_wp2
      go_loopw [8, 10] (fun sv iv wr => ∃ (j : Nat) (SC : ByteArray), j ≤ K - 1 ∧ iv = .int .i64 j ∧ sv = .string SC ∧ (SC.size : Int) ≤ 8388608 ∧ Hid (SC = str (rp [91] K ++ rp [93] j)) ∧ Hid (Below w.heap.size w wr)) (fun _ i _ => K - (intOf i).toNat)
      case atStart => exact ⟨0, SB, Nat.zero_le _, rfl, rfl, hS8, Lib.hid (by show _ = str (rp [91] K ++ []); rw [List.append_nil]; exact HM.out), BW⟩
      case round =>
        obtain ⟨j, SC, hj, rfl, rfl, hC8, HC, BQ⟩ := hrel
        rename World => wq
        clear hge hkK HS HM BW hS8
        by_cases hlt3 : j < K - 1
        · have hlt4 : (j : Int) < (K : Int) := by omega
          have hne : ((j : Int) == (K : Int) - 1) = false := by rw [beq_eq_false_iff_ne]; omega
          obtain ⟨SC2, hSC⟩ : ∃ X, SC ++ ⟨#[93]⟩ = X := ⟨_, rfl⟩
          have HC2 : Hid (SC2 = str (rp [91] K ++ rp [93] (j + 1))) := Lib.hid (by rw [← hSC, HC.out, show (⟨#[93]⟩ : ByteArray) = str [93] from rfl, str_app, List.append_assoc]; rfl)
          have hC28 : (SC2.size : Int) ≤ 8388608 := by rw [HC2.out, str_size]; simp only [List.length_append, rp_len, List.length_cons, List.length_nil]; omega
          go_wp2
          go_roundw
          case rel => exact ⟨j + 1, SC2, by omega, by go_num, rfl, hC28, HC2, BQ⟩
          case measure => simp [intOf]; omega
        · obtain hjK : j = K - 1 := by omega
          have hlt4 : (j : Int) < (K : Int) := by omega
          have heq : ((j : Int) == (K : Int) - 1) = true := by rw [beq_iff_eq]; omega
          have hTX : str (91 :: aT (K - 2) []) = SC := by rw [HC.out, hjK, tx_ac k1]
          have hc1 := Lib.run_convert_string_bytes (P := Tryz.prog) wq 9 33 5 SC (u := .string) (by kernel_rfl) (by kernel_rfl) (by kernel_rfl)
          have HY1 := Lib.hid (by_world wq (91 :: aT (K - 2) []))
          have HZ1 := Lib.hid (below_bytes wq 5 SC)
          rw [hTX] at HY1
          obtain ⟨cp1, hcp1⟩ : ∃ cp, grownCap wq SC.size 0 5 = cp := ⟨_, rfl⟩
          obtain ⟨W1, hW1⟩ : ∃ W1, Lib.bytesWorld wq 5 SC = W1 := ⟨_, rfl⟩
          rw [hcp1, hW1] at hc1
          rw [hW1] at HY1 HZ1
          clear hcp1 hW1 hjK hlt3 HC hQ
          by_cases h16 : (16 : Int) < (K : Int)
          · have HDE := HD.out
            have KD1 := Lib.hid (HDE W1 wq.heap.size cp1 (btr BQ.out HZ1.out) HY1.out)
            rw [hTX] at KD1
            clear HDE HY1 hTX
            go_wp2_with fail
            ((with_reducible refine (KD1.out).mono ?_); rintro e w1 ⟨kd1, bg1, y1, p1a, p1b, p1c, bi1, s1, la1, n1, lc1, ka1, m1, kc1, rfl, hb1⟩)
            have BW1 : Hid (Below w.heap.size w (w1.alloc (.cells #[.int .i64 kd1, .bool bg1, .int .u64 y1, .int .u64 p1a, .int .u64 p1b, .int .u64 p1c, .int .u64 bi1, .string s1, .slice la1 n1 lc1, .slice ka1 m1 kc1] 30))) := Lib.hid (bal (btr (btr BQ.out HZ1.out) hb1) _)
            have R1 := Lib.hid (Row10.new w1 (.int .i64 kd1) (.bool bg1) (.int .u64 y1) (.int .u64 p1a) (.int .u64 p1b) (.int .u64 p1c) (.int .u64 bi1) (.string s1) (.slice la1 n1 lc1) (.slice ka1 m1 kc1))
            have KT := Lib.hid (told7_true (w1.alloc (.cells #[.int .i64 kd1, .bool bg1, .int .u64 y1, .int .u64 p1a, .int .u64 p1b, .int .u64 p1c, .int .u64 bi1, .string s1, .slice la1 n1 lc1, .slice ka1 m1 kc1] 30)) (tabs_on HT.out BW1.out))
            clear hb1 KD1 hc1
            go_wp2_with (go_at_call 8; ((with_reducible refine (KT.out).mono ?_); rintro e w4 ⟨rfl, hb4⟩; have R4 := Row10.keep hb4 R1.out; have B4 := Lib.hid (btr BW1.out hb4); obtain ⟨p0, p1, p2, p3, p4, p5, p6, p7, p8, p9⟩ := R4.parts; clear hb4))
            go_ret
            exact ⟨rfl, B4.out⟩
          · have HDE := HD.out
            have KD1 := Lib.hid (HDE W1 wq.heap.size cp1 (btr BQ.out HZ1.out) HY1.out)
            rw [hTX] at KD1
            clear HDE HY1 hTX
            go_wp2_with fail
            ((with_reducible refine (KD1.out).mono ?_); rintro e w1 ⟨kd1, bg1, y1, p1a, p1b, p1c, bi1, s1, la1, n1, lc1, ka1, m1, kc1, rfl, hb1⟩)
            have BW1 : Hid (Below w.heap.size w (w1.alloc (.cells #[.int .i64 kd1, .bool bg1, .int .u64 y1, .int .u64 p1a, .int .u64 p1b, .int .u64 p1c, .int .u64 bi1, .string s1, .slice la1 n1 lc1, .slice ka1 m1 kc1] 30))) := Lib.hid (bal (btr (btr BQ.out HZ1.out) hb1) _)
            have R1 := Lib.hid (Row10.new w1 (.int .i64 kd1) (.bool bg1) (.int .u64 y1) (.int .u64 p1a) (.int .u64 p1b) (.int .u64 p1c) (.int .u64 bi1) (.string s1) (.slice la1 n1 lc1) (.slice ka1 m1 kc1))
            have KT := Lib.hid (told7_true (w1.alloc (.cells #[.int .i64 kd1, .bool bg1, .int .u64 y1, .int .u64 p1a, .int .u64 p1b, .int .u64 p1c, .int .u64 bi1, .string s1, .slice la1 n1 lc1, .slice ka1 m1 kc1] 30)) (tabs_on HT.out BW1.out))
            clear hb1 KD1 hc1
            go_wp2_with (go_at_call 8; ((with_reducible refine (KT.out).mono ?_); rintro e w4 ⟨rfl, hb4⟩; have R4 := Row10.keep hb4 R1.out; have B4 := Lib.hid (btr BW1.out hb4); obtain ⟨p0, p1, p2, p3, p4, p5, p6, p7, p8, p9⟩ := R4.parts; clear hb4))
            go_ret
            exact ⟨rfl, B4.out⟩
set_option maxRecDepth 100000 in
set_option maxHeartbeats 4000000 in
theorem jdeep_o (z : Int) (w : World) (hT : Tabs w) : Calls Tryz.prog 5 #[.int .i64 z, .bool true, .bool false] w fun e w' => e = .returned (.bool true) ∧ Below w.heap.size w w' := by
  have HT := Lib.hid hT
  clear hT
  obtain ⟨U, hU⟩ : ∃ U, IntKind.u64.wrap z = U := ⟨_, rfl⟩
  have u0 : 0 ≤ U ∧ U < 18446744073709551616 := by rw [← hU, IntKind.wrap_u64]; omega
  obtain ⟨u1, u2⟩ := u0
  obtain ⟨R, hR⟩ : ∃ R, U % 291 = R := ⟨_, rfl⟩
  have r0 : 0 ≤ R ∧ R < 291 := by omega
  obtain ⟨r1, r2⟩ := r0
  obtain ⟨K, hK⟩ : ∃ K : Nat, 10 + R = (K : Int) := ⟨(10 + R).toNat, by omega⟩
  have k1 : 10 ≤ K := by omega
  have k2 : K ≤ 300 := by omega
  have HD := Lib.hid (dans_obj w HT.out.2 K (by omega))
  have hP : ((⟨#[123, 34, 97, 34, 58]⟩ : ByteArray).size : Int) ≤ 8388608 := by decide
  go_enter Tryz.func5, Tryz.ntmps5
  go_wp2
  clear hU u1 u2 hR r1 r2
  go_loopw [8, 9] (fun sv iv wr => ∃ (k : Nat) (SB : ByteArray), k ≤ K ∧ iv = .int .i64 k ∧ sv = .string SB ∧ (SB.size : Int) ≤ 8388608 ∧ Hid (SB = str (rp [123, 34, 97, 34, 58] k)) ∧ Hid (Below w.heap.size w wr)) (fun _ i _ => K - (intOf i).toNat)
  case atStart => exact ⟨0, ⟨#[]⟩, Nat.zero_le _, rfl, rfl, by decide, Lib.hid rfl, Lib.hid (Below.refl _ _)⟩
  case round =>
    obtain ⟨k, SB, hk, rfl, rfl, hS8, HS, BW⟩ := hrel
    rename World => wr
    by_cases hlt : k < K
    · have hlt2 : (k : Int) < (K : Int) := by omega
      obtain ⟨SB2, hSB⟩ : ∃ X, SB ++ ⟨#[123, 34, 97, 34, 58]⟩ = X := ⟨_, rfl⟩
      have HQ2 : Hid (SB2 = str (rp [123, 34, 97, 34, 58] (k + 1))) := Lib.hid (by rw [← hSB, HS.out, show (⟨#[123, 34, 97, 34, 58]⟩ : ByteArray) = str [123, 34, 97, 34, 58] from rfl, str_app]; rfl)
      have hS28 : (SB2.size : Int) ≤ 8388608 := by rw [HQ2.out, str_size, rp_len]; simp only [List.length_cons, List.length_nil]; omega
      go_wp2
      go_roundw
      case rel => exact ⟨k + 1, SB2, by omega, by go_num, rfl, hS28, HQ2, BW⟩
      case measure => simp [intOf]; omega
    · have hge : ¬ (k : Int) < (K : Int) := by omega
      have hkK : k = K := by omega
      have m48 : ((⟨#[48]⟩ : ByteArray).size : Int) ≤ 8388608 := by decide
      obtain ⟨SM, hSM⟩ : ∃ X, SB ++ ⟨#[48]⟩ = X := ⟨_, rfl⟩
      have HM : Hid (SM = str (rp [123, 34, 97, 34, 58] K ++ [48])) := Lib.hid (by rw [← hSM, HS.out, hkK, show (⟨#[48]⟩ : ByteArray) = str [48] from rfl, str_app])
      have hM8 : (SM.size : Int) ≤ 8388608 := by rw [HM.out, str_size, List.length_append, rp_len]; simp only [List.length_cons, List.length_nil]; omega
      clear hP
      have hQ : ((⟨#[125]⟩ : ByteArray).size : Int) ≤ 8388608 := by decide
      go_wp2
      go_loopw [8, 10] (fun sv iv wr => ∃ (j : Nat) (SC : ByteArray), j ≤ K ∧ iv = .int .i64 j ∧ sv = .string SC ∧ (SC.size : Int) ≤ 8388608 ∧ Hid (SC = str ((rp [123, 34, 97, 34, 58] K ++ [48]) ++ rp [125] j)) ∧ Hid (Below w.heap.size w wr)) (fun _ i _ => K - (intOf i).toNat)
      case atStart => exact ⟨0, SM, Nat.zero_le _, rfl, rfl, hM8, Lib.hid (by show _ = str ((rp [123, 34, 97, 34, 58] K ++ [48]) ++ []); rw [List.append_nil]; exact HM.out), BW⟩
      case round =>
        obtain ⟨j, SC, hj, rfl, rfl, hC8, HC, BQ⟩ := hrel
        rename World => wq
        clear hge hkK HS HM BW hS8 hM8 hSM
        by_cases hlt3 : j < K
        · have hlt4 : (j : Int) < (K : Int) := by omega
          obtain ⟨SC2, hSC⟩ : ∃ X, SC ++ ⟨#[125]⟩ = X := ⟨_, rfl⟩
          have HC2 : Hid (SC2 = str ((rp [123, 34, 97, 34, 58] K ++ [48]) ++ rp [125] (j + 1))) := Lib.hid (by rw [← hSC, HC.out, show (⟨#[125]⟩ : ByteArray) = str [125] from rfl, str_app, List.append_assoc]; rfl)
          have hC28 : (SC2.size : Int) ≤ 8388608 := by rw [HC2.out, str_size]; simp only [List.length_append, rp_len, List.length_cons, List.length_nil]; omega
          go_wp2
          go_roundw
          case rel => exact ⟨j + 1, SC2, by omega, by go_num, rfl, hC28, HC2, BQ⟩
          case measure => simp [intOf]; omega
        · obtain hjK : j = K := by omega
          have hge2 : ¬ (j : Int) < (K : Int) := by omega
          have hTX : str (oT K []) = SC := by rw [HC.out, hjK, tx_o K]
          have hc1 := Lib.run_convert_string_bytes (P := Tryz.prog) wq 9 33 5 SC (u := .string) (by kernel_rfl) (by kernel_rfl) (by kernel_rfl)
          have HY1 := Lib.hid (by_world wq (oT K []))
          have HZ1 := Lib.hid (below_bytes wq 5 SC)
          rw [hTX] at HY1
          obtain ⟨cp1, hcp1⟩ : ∃ cp, grownCap wq SC.size 0 5 = cp := ⟨_, rfl⟩
          obtain ⟨W1, hW1⟩ : ∃ W1, Lib.bytesWorld wq 5 SC = W1 := ⟨_, rfl⟩
          rw [hcp1, hW1] at hc1
          rw [hW1] at HY1 HZ1
          clear hcp1 hW1 hjK hlt3 HC hQ
          by_cases h16 : (16 : Int) < (K : Int) + 1
          · have HDE := HD.out
            rw [if_pos (by omega)] at HDE
            have KD1 := Lib.hid (HDE W1 wq.heap.size cp1 (btr BQ.out HZ1.out) HY1.out)
            rw [hTX] at KD1
            clear HDE HY1 hTX
            go_wp2_with fail
            ((with_reducible refine (KD1.out).mono ?_); rintro e w1 ⟨kd1, bg1, y1, p1a, p1b, p1c, bi1, s1, la1, n1, lc1, ka1, m1, kc1, rfl, hb1⟩)
            have BW1 : Hid (Below w.heap.size w (w1.alloc (.cells #[.int .i64 kd1, .bool bg1, .int .u64 y1, .int .u64 p1a, .int .u64 p1b, .int .u64 p1c, .int .u64 bi1, .string s1, .slice la1 n1 lc1, .slice ka1 m1 kc1] 30))) := Lib.hid (bal (btr (btr BQ.out HZ1.out) hb1) _)
            have R1 := Lib.hid (Row10.new w1 (.int .i64 kd1) (.bool bg1) (.int .u64 y1) (.int .u64 p1a) (.int .u64 p1b) (.int .u64 p1c) (.int .u64 bi1) (.string s1) (.slice la1 n1 lc1) (.slice ka1 m1 kc1))
            have KT := Lib.hid (told7_true (w1.alloc (.cells #[.int .i64 kd1, .bool bg1, .int .u64 y1, .int .u64 p1a, .int .u64 p1b, .int .u64 p1c, .int .u64 bi1, .string s1, .slice la1 n1 lc1, .slice ka1 m1 kc1] 30)) (tabs_on HT.out BW1.out))
            clear hb1 KD1 hc1
            go_wp2_with (go_at_call 8; ((with_reducible refine (KT.out).mono ?_); rintro e w4 ⟨rfl, hb4⟩; have R4 := Row10.keep hb4 R1.out; have B4 := Lib.hid (btr BW1.out hb4); obtain ⟨p0, p1, p2, p3, p4, p5, p6, p7, p8, p9⟩ := R4.parts; clear hb4))
            go_ret
            exact ⟨rfl, B4.out⟩
          · have HDE := HD.out
            rw [if_neg (by omega)] at HDE
            have KD1 := Lib.hid (HDE W1 wq.heap.size cp1 (btr BQ.out HZ1.out) HY1.out)
            rw [hTX] at KD1
            clear HDE HY1 hTX
            go_wp2_with fail
            ((with_reducible refine (KD1.out).mono ?_); rintro e w1 ⟨kd1, bg1, y1, p1a, p1b, p1c, bi1, s1, la1, n1, lc1, ka1, m1, kc1, rfl, hb1⟩)
            have BW1 : Hid (Below w.heap.size w (w1.alloc (.cells #[.int .i64 kd1, .bool bg1, .int .u64 y1, .int .u64 p1a, .int .u64 p1b, .int .u64 p1c, .int .u64 bi1, .string s1, .slice la1 n1 lc1, .slice ka1 m1 kc1] 30))) := Lib.hid (bal (btr (btr BQ.out HZ1.out) hb1) _)
            have R1 := Lib.hid (Row10.new w1 (.int .i64 kd1) (.bool bg1) (.int .u64 y1) (.int .u64 p1a) (.int .u64 p1b) (.int .u64 p1c) (.int .u64 bi1) (.string s1) (.slice la1 n1 lc1) (.slice ka1 m1 kc1))
            have KT := Lib.hid (told7_true (w1.alloc (.cells #[.int .i64 kd1, .bool bg1, .int .u64 y1, .int .u64 p1a, .int .u64 p1b, .int .u64 p1c, .int .u64 bi1, .string s1, .slice la1 n1 lc1, .slice ka1 m1 kc1] 30)) (tabs_on HT.out BW1.out))
            clear hb1 KD1 hc1
            go_wp2_with (go_at_call 8; ((with_reducible refine (KT.out).mono ?_); rintro e w4 ⟨rfl, hb4⟩; have R4 := Row10.keep hb4 R1.out; have B4 := Lib.hid (btr BW1.out hb4); obtain ⟨p0, p1, p2, p3, p4, p5, p6, p7, p8, p9⟩ := R4.parts; clear hb4))
            go_ret
            exact ⟨rfl, B4.out⟩
set_option maxRecDepth 100000 in
set_option maxHeartbeats 4000000 in
theorem jdeep_oc (z : Int) (w : World) (hT : Tabs w) : Calls Tryz.prog 5 #[.int .i64 z, .bool true, .bool true] w fun e w' => e = .returned (.bool true) ∧ Below w.heap.size w w' := by
  have HT := Lib.hid hT
  clear hT
  obtain ⟨U, hU⟩ : ∃ U, IntKind.u64.wrap z = U := ⟨_, rfl⟩
  have u0 : 0 ≤ U ∧ U < 18446744073709551616 := by rw [← hU, IntKind.wrap_u64]; omega
  obtain ⟨u1, u2⟩ := u0
  obtain ⟨R, hR⟩ : ∃ R, U % 291 = R := ⟨_, rfl⟩
  have r0 : 0 ≤ R ∧ R < 291 := by omega
  obtain ⟨r1, r2⟩ := r0
  obtain ⟨K, hK⟩ : ∃ K : Nat, 10 + R = (K : Int) := ⟨(10 + R).toNat, by omega⟩
  have k1 : 10 ≤ K := by omega
  have k2 : K ≤ 300 := by omega
  have HD := Lib.hid (dans_ocut w HT.out.2 (K - 1) (by omega))
  have hP : ((⟨#[123, 34, 97, 34, 58]⟩ : ByteArray).size : Int) ≤ 8388608 := by decide
  go_enter Tryz.func5, Tryz.ntmps5
  go_wp2
  clear hU u1 u2 hR r1 r2
  go_loopw [8, 9] (fun sv iv wr => ∃ (k : Nat) (SB : ByteArray), k ≤ K ∧ iv = .int .i64 k ∧ sv = .string SB ∧ (SB.size : Int) ≤ 8388608 ∧ Hid (SB = str (rp [123, 34, 97, 34, 58] k)) ∧ Hid (Below w.heap.size w wr)) (fun _ i _ => K - (intOf i).toNat)
  case atStart => exact ⟨0, ⟨#[]⟩, Nat.zero_le _, rfl, rfl, by decide, Lib.hid rfl, Lib.hid (Below.refl _ _)⟩
  case round =>
    obtain ⟨k, SB, hk, rfl, rfl, hS8, HS, BW⟩ := hrel
    rename World => wr
    by_cases hlt : k < K
    · have hlt2 : (k : Int) < (K : Int) := by omega
      obtain ⟨SB2, hSB⟩ : ∃ X, SB ++ ⟨#[123, 34, 97, 34, 58]⟩ = X := ⟨_, rfl⟩
      have HQ2 : Hid (SB2 = str (rp [123, 34, 97, 34, 58] (k + 1))) := Lib.hid (by rw [← hSB, HS.out, show (⟨#[123, 34, 97, 34, 58]⟩ : ByteArray) = str [123, 34, 97, 34, 58] from rfl, str_app]; rfl)
      have hS28 : (SB2.size : Int) ≤ 8388608 := by rw [HQ2.out, str_size, rp_len]; simp only [List.length_cons, List.length_nil]; omega
      go_wp2
      go_roundw
      case rel => exact ⟨k + 1, SB2, by omega, by go_num, rfl, hS28, HQ2, BW⟩
      case measure => simp [intOf]; omega
    · have hge : ¬ (k : Int) < (K : Int) := by omega
      have hkK : k = K := by omega
      have m48 : ((⟨#[48]⟩ : ByteArray).size : Int) ≤ 8388608 := by decide
      obtain ⟨SM, hSM⟩ : ∃ X, SB ++ ⟨#[48]⟩ = X := ⟨_, rfl⟩
      have HM : Hid (SM = str (rp [123, 34, 97, 34, 58] K ++ [48])) := Lib.hid (by rw [← hSM, HS.out, hkK, show (⟨#[48]⟩ : ByteArray) = str [48] from rfl, str_app])
      have hM8 : (SM.size : Int) ≤ 8388608 := by rw [HM.out, str_size, List.length_append, rp_len]; simp only [List.length_cons, List.length_nil]; omega
      clear hP
      have hQ : ((⟨#[125]⟩ : ByteArray).size : Int) ≤ 8388608 := by decide
      go_wp2
      go_loopw [8, 10] (fun sv iv wr => ∃ (j : Nat) (SC : ByteArray), j ≤ K - 1 ∧ iv = .int .i64 j ∧ sv = .string SC ∧ (SC.size : Int) ≤ 8388608 ∧ Hid (SC = str ((rp [123, 34, 97, 34, 58] K ++ [48]) ++ rp [125] j)) ∧ Hid (Below w.heap.size w wr)) (fun _ i _ => K - (intOf i).toNat)
      case atStart => exact ⟨0, SM, Nat.zero_le _, rfl, rfl, hM8, Lib.hid (by show _ = str ((rp [123, 34, 97, 34, 58] K ++ [48]) ++ []); rw [List.append_nil]; exact HM.out), BW⟩
      case round =>
        obtain ⟨j, SC, hj, rfl, rfl, hC8, HC, BQ⟩ := hrel
        rename World => wq
        clear hge hkK HS HM BW hS8 hM8 hSM
        by_cases hlt3 : j < K - 1
        · have hlt4 : (j : Int) < (K : Int) := by omega
          have hne : ((j : Int) == (K : Int) - 1) = false := by rw [beq_eq_false_iff_ne]; omega
          obtain ⟨SC2, hSC⟩ : ∃ X, SC ++ ⟨#[125]⟩ = X := ⟨_, rfl⟩
          have HC2 : Hid (SC2 = str ((rp [123, 34, 97, 34, 58] K ++ [48]) ++ rp [125] (j + 1))) := Lib.hid (by rw [← hSC, HC.out, show (⟨#[125]⟩ : ByteArray) = str [125] from rfl, str_app, List.append_assoc]; rfl)
          have hC28 : (SC2.size : Int) ≤ 8388608 := by rw [HC2.out, str_size]; simp only [List.length_append, rp_len, List.length_cons, List.length_nil]; omega
          go_wp2
          go_roundw
          case rel => exact ⟨j + 1, SC2, by omega, by go_num, rfl, hC28, HC2, BQ⟩
          case measure => simp [intOf]; omega
        · obtain hjK : j = K - 1 := by omega
          have hlt4 : (j : Int) < (K : Int) := by omega
          have heq : ((j : Int) == (K : Int) - 1) = true := by rw [beq_iff_eq]; omega
          have hTX : str (oL (K - 1) []) = SC := by rw [HC.out, hjK, tx_oc k1]
          have hc1 := Lib.run_convert_string_bytes (P := Tryz.prog) wq 9 33 5 SC (u := .string) (by kernel_rfl) (by kernel_rfl) (by kernel_rfl)
          have HY1 := Lib.hid (by_world wq (oL (K - 1) []))
          have HZ1 := Lib.hid (below_bytes wq 5 SC)
          rw [hTX] at HY1
          obtain ⟨cp1, hcp1⟩ : ∃ cp, grownCap wq SC.size 0 5 = cp := ⟨_, rfl⟩
          obtain ⟨W1, hW1⟩ : ∃ W1, Lib.bytesWorld wq 5 SC = W1 := ⟨_, rfl⟩
          rw [hcp1, hW1] at hc1
          rw [hW1] at HY1 HZ1
          clear hcp1 hW1 hjK hlt3 HC hQ
          by_cases h16 : (16 : Int) < (K : Int) + 1
          · have HDE := HD.out
            have KD1 := Lib.hid (HDE W1 wq.heap.size cp1 (btr BQ.out HZ1.out) HY1.out)
            rw [hTX] at KD1
            clear HDE HY1 hTX
            go_wp2_with fail
            ((with_reducible refine (KD1.out).mono ?_); rintro e w1 ⟨kd1, bg1, y1, p1a, p1b, p1c, bi1, s1, la1, n1, lc1, ka1, m1, kc1, rfl, hb1⟩)
            have BW1 : Hid (Below w.heap.size w (w1.alloc (.cells #[.int .i64 kd1, .bool bg1, .int .u64 y1, .int .u64 p1a, .int .u64 p1b, .int .u64 p1c, .int .u64 bi1, .string s1, .slice la1 n1 lc1, .slice ka1 m1 kc1] 30))) := Lib.hid (bal (btr (btr BQ.out HZ1.out) hb1) _)
            have R1 := Lib.hid (Row10.new w1 (.int .i64 kd1) (.bool bg1) (.int .u64 y1) (.int .u64 p1a) (.int .u64 p1b) (.int .u64 p1c) (.int .u64 bi1) (.string s1) (.slice la1 n1 lc1) (.slice ka1 m1 kc1))
            have KT := Lib.hid (told7_true (w1.alloc (.cells #[.int .i64 kd1, .bool bg1, .int .u64 y1, .int .u64 p1a, .int .u64 p1b, .int .u64 p1c, .int .u64 bi1, .string s1, .slice la1 n1 lc1, .slice ka1 m1 kc1] 30)) (tabs_on HT.out BW1.out))
            clear hb1 KD1 hc1
            go_wp2_with (go_at_call 8; ((with_reducible refine (KT.out).mono ?_); rintro e w4 ⟨rfl, hb4⟩; have R4 := Row10.keep hb4 R1.out; have B4 := Lib.hid (btr BW1.out hb4); obtain ⟨p0, p1, p2, p3, p4, p5, p6, p7, p8, p9⟩ := R4.parts; clear hb4))
            go_ret
            exact ⟨rfl, B4.out⟩
          · have HDE := HD.out
            have KD1 := Lib.hid (HDE W1 wq.heap.size cp1 (btr BQ.out HZ1.out) HY1.out)
            rw [hTX] at KD1
            clear HDE HY1 hTX
            go_wp2_with fail
            ((with_reducible refine (KD1.out).mono ?_); rintro e w1 ⟨kd1, bg1, y1, p1a, p1b, p1c, bi1, s1, la1, n1, lc1, ka1, m1, kc1, rfl, hb1⟩)
            have BW1 : Hid (Below w.heap.size w (w1.alloc (.cells #[.int .i64 kd1, .bool bg1, .int .u64 y1, .int .u64 p1a, .int .u64 p1b, .int .u64 p1c, .int .u64 bi1, .string s1, .slice la1 n1 lc1, .slice ka1 m1 kc1] 30))) := Lib.hid (bal (btr (btr BQ.out HZ1.out) hb1) _)
            have R1 := Lib.hid (Row10.new w1 (.int .i64 kd1) (.bool bg1) (.int .u64 y1) (.int .u64 p1a) (.int .u64 p1b) (.int .u64 p1c) (.int .u64 bi1) (.string s1) (.slice la1 n1 lc1) (.slice ka1 m1 kc1))
            have KT := Lib.hid (told7_true (w1.alloc (.cells #[.int .i64 kd1, .bool bg1, .int .u64 y1, .int .u64 p1a, .int .u64 p1b, .int .u64 p1c, .int .u64 bi1, .string s1, .slice la1 n1 lc1, .slice ka1 m1 kc1] 30)) (tabs_on HT.out BW1.out))
            clear hb1 KD1 hc1
            go_wp2_with (go_at_call 8; ((with_reducible refine (KT.out).mono ?_); rintro e w4 ⟨rfl, hb4⟩; have R4 := Row10.keep hb4 R1.out; have B4 := Lib.hid (btr BW1.out hb4); obtain ⟨p0, p1, p2, p3, p4, p5, p6, p7, p8, p9⟩ := R4.parts; clear hb4))
            go_ret
            exact ⟨rfl, B4.out⟩
theorem jdeep_any (z : Int) (o c : Bool) (w : World) (hT : Tabs w) : Calls Tryz.prog 5 #[.int .i64 z, .bool o, .bool c] w fun e w' => e = .returned (.bool true) ∧ Below w.heap.size w w' := by
  cases o <;> cases c
  · exact jdeep_a z w hT
  · exact jdeep_ac z w hT
  · exact jdeep_o z w hT
  · exact jdeep_oc z w hT
end Go.Proofs.YtocffoemimghhaaGreatDoor
