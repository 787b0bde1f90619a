/-
  Valid, Count, Put, Cut of package utf and of the reference: for every text of at most 2^47 bytes, every number; told.
-/
import Derived.Test.YtoibaeilbolffaaUtfRef
import Derived.Test.YtoibaeilbolffaaUtfClone
import Derived.Deep.RegionHeld3
namespace Go.Proofs.Ytoibaeilbolffaa
open Go.RowKit

theorem nans_some {l : List UInt8} {c n : Nat} (h : udec l = some (c, n)) : nans l = .tuple #[.int .i64 (c : Nat), .int .i64 (n : Nat)] := by
  unfold nans
  rw [unc_some h, unn_some h]
theorem drop_ne {s : ByteArray} {k : Nat} (h : k < s.size) : s.data.toList.drop k ≠ [] := by rw [drop_cons s k h]; simp
theorem drop_all {s : ByteArray} {k : Nat} (h : s.size ≤ k) : s.data.toList.drop k = [] := List.drop_of_length_le (by rw [Array.length_toList]; exact h)
theorem len_drop (s : ByteArray) (k : Nat) : (s.data.toList.drop k).length = s.size - k := by rw [List.length_drop, Array.length_toList]; rfl
theorem drop_drop' (s : ByteArray) (k n : Nat) : (s.data.toList.drop k).drop n = s.data.toList.drop (k + n) := by rw [List.drop_drop]
theorem zint {c : Nat} : ((c : Int) == -1) = false := by rw [beq_eq_false_iff_ne]; omega
set_option maxHeartbeats 1000000 in
theorem valid_any (s : ByteArray) (hmax : s.size ≤ 140737488351232) (w : World) :
    Calls Try.prog 11 #[.string s] w fun e w' => e = .returned (.bool (uval s.data.toList)) ∧ w' = w := by
  obtain ⟨V, hV⟩ : ∃ V, uval (s.data.toList.drop 0) = V := ⟨_, rfl⟩
  have HV := Lib.hid hV
  rw [List.drop_zero] at hV
  rw [hV]
  clear hV
  go_enter Try.func11, Try.ntmps11
  go_wp2
  go_loop [3] (fun p => ∃ k : Nat, k ≤ s.size ∧ p = .int .i64 (k : Nat) ∧ Hid (uval (s.data.toList.drop k) = V)) (fun p => s.size - (intOf p).toNat)
  case atStart => exact ⟨0, Nat.zero_le _, rfl, HV⟩
  case round =>
    obtain ⟨k, hk, rfl, HU⟩ := hrel
    by_cases hlt : k < s.size
    · have C := fun W => next_any s hmax (k : Int) W
      rw [uat_nat] at C
      have hlti : (k : Int) < (s.size : Int) := by omega
      have hne := drop_ne hlt
      have hstep := uval_cons hne
      cases hd : udec (s.data.toList.drop k) with
      | none =>
        rw [nans_none hne hd] at C
        rw [hd] at hstep
        have HF : Hid (V = false) := by rw [← HU.out, hstep]; rfl
        have HC := Lib.hid C; clear C hd hne hstep HU
        go_wp2_with (go_at_call 9; ((with_reducible refine (HC.out _).mono ?_); rintro e w' ⟨rfl, rfl⟩))
        go_ret
        exact ⟨by rw [HF.out]; rfl, rfl⟩
      | some cn =>
        obtain ⟨c, n⟩ := cn
        have hn := udec_some hd
        rw [len_drop] at hn
        rw [nans_some hd] at C
        rw [hd, unn_some hd, drop_drop'] at hstep
        have HF : Hid (uval (s.data.toList.drop (k + n)) = V) := by rw [← HU.out, hstep]; rfl
        obtain ⟨hn1, hn2, hn3, _⟩ := hn
        have hc1 := zint (c := c)
        have HC := Lib.hid C; clear C hd hne hstep HU
        go_wp2_with (go_at_call 9; ((with_reducible refine (HC.out _).mono ?_); rintro e w' ⟨rfl, rfl⟩))
        go_round
        case rel => exact ⟨k + n, by omega, by go_num, HF⟩
        case measure => simp [intOf]; omega
    · obtain rfl : k = s.size := by omega
      have HF : Hid (V = true) := by rw [← HU.out, drop_all (Nat.le_refl _), uval_nil]; rfl
      clear HU
      go_wp2
      go_ret
      exact ⟨by rw [HF.out]; rfl, rfl⟩
set_option maxHeartbeats 1000000 in
theorem rvalid_any (s : ByteArray) (hmax : s.size ≤ 140737488351232) (w : World) :
    Calls Try.prog 12 #[.string s] w fun e w' => e = .returned (.bool (uval s.data.toList)) ∧ w' = w := by
  obtain ⟨V, hV⟩ : ∃ V, uval (s.data.toList.drop 0) = V := ⟨_, rfl⟩
  have HV := Lib.hid hV
  rw [List.drop_zero] at hV
  rw [hV]
  clear hV
  go_enter Try.func12, Try.ntmps12
  go_wp2
  go_loop [3] (fun p => ∃ k : Nat, k ≤ s.size ∧ p = .int .i64 (k : Nat) ∧ Hid (uval (s.data.toList.drop k) = V)) (fun p => s.size - (intOf p).toNat)
  case atStart => exact ⟨0, Nat.zero_le _, rfl, HV⟩
  case round =>
    obtain ⟨k, hk, rfl, HU⟩ := hrel
    by_cases hlt : k < s.size
    · have C := fun W => rnext_any s hmax (k : Int) W
      rw [uat_nat] at C
      have hlti : (k : Int) < (s.size : Int) := by omega
      have hne := drop_ne hlt
      have hstep := uval_cons hne
      cases hd : udec (s.data.toList.drop k) with
      | none =>
        rw [nans_none hne hd] at C
        rw [hd] at hstep
        have HF : Hid (V = false) := by rw [← HU.out, hstep]; rfl
        have HC := Lib.hid C; clear C hd hne hstep HU
        go_wp2_with (go_at_call 10; ((with_reducible refine (HC.out _).mono ?_); rintro e w' ⟨rfl, rfl⟩))
        go_ret
        exact ⟨by rw [HF.out]; rfl, rfl⟩
      | some cn =>
        obtain ⟨c, n⟩ := cn
        have hn := udec_some hd
        rw [len_drop] at hn
        rw [nans_some hd] at C
        rw [hd, unn_some hd, drop_drop'] at hstep
        have HF : Hid (uval (s.data.toList.drop (k + n)) = V) := by rw [← HU.out, hstep]; rfl
        obtain ⟨hn1, hn2, hn3, _⟩ := hn
        have hc1 := zint (c := c)
        have HC := Lib.hid C; clear C hd hne hstep HU
        go_wp2_with (go_at_call 10; ((with_reducible refine (HC.out _).mono ?_); rintro e w' ⟨rfl, rfl⟩))
        go_round
        case rel => exact ⟨k + n, by omega, by go_num, HF⟩
        case measure => simp [intOf]; omega
    · obtain rfl : k = s.size := by omega
      have HF : Hid (V = true) := by rw [← HU.out, drop_all (Nat.le_refl _), uval_nil]; rfl
      clear HU
      go_wp2
      go_ret
      exact ⟨by rw [HF.out]; rfl, rfl⟩
set_option maxHeartbeats 1000000 in
theorem count_any (s : ByteArray) (hmax : s.size ≤ 140737488351232) (w : World) :
    Calls Try.prog 13 #[.string s] w fun e w' => e = .returned (.int .i64 (ucnt s.data.toList : Nat)) ∧ w' = w := by
  obtain ⟨V, hV⟩ : ∃ V, ucnt (s.data.toList.drop 0) = V := ⟨_, rfl⟩
  have HV : Hid (0 + ucnt (s.data.toList.drop 0) = V) := by rw [Nat.zero_add]; exact hV
  rw [List.drop_zero] at hV
  rw [hV]
  clear hV
  go_enter Try.func13, Try.ntmps13
  go_wp2
  go_loop [3, 4] (fun i p => ∃ k j : Nat, k ≤ s.size ∧ j ≤ k ∧ p = .int .i64 (k : Nat) ∧ i = .int .i64 (j : Nat) ∧ Hid (j + ucnt (s.data.toList.drop k) = V)) (fun _ p => s.size - (intOf p).toNat)
  case atStart => exact ⟨0, 0, Nat.zero_le _, Nat.le_refl _, rfl, rfl, HV⟩
  case round =>
    obtain ⟨k, j, hk, hj, rfl, rfl, HU⟩ := hrel
    by_cases hlt : k < s.size
    · have C := fun W => next_any s hmax (k : Int) W
      rw [uat_nat] at C
      have hlti : (k : Int) < (s.size : Int) := by omega
      have hne := drop_ne hlt
      have hstep := ucnt_cons hne
      have hn := unn_pos hne
      rw [len_drop] at hn
      rw [drop_drop'] at hstep
      unfold nans at C
      have HF : Hid (j + 1 + ucnt (s.data.toList.drop (k + unn (s.data.toList.drop k))) = V) := by rw [← HU.out, hstep]; unfold Hid; omega
      clear hstep HU hne
      generalize unn (s.data.toList.drop k) = n at C hn HF
      generalize unc (s.data.toList.drop k) = c at C
      obtain ⟨hn1, hn2, hn3⟩ := hn
      have HC := Lib.hid C; clear C
      go_wp2_with (go_at_call 9; ((with_reducible refine (HC.out _).mono ?_); rintro e w' ⟨rfl, rfl⟩))
      go_round
      case rel => exact ⟨k + n, j + 1, by omega, by omega, by go_num, by go_num, HF⟩
      case measure => simp [intOf]; omega
    · obtain rfl : k = s.size := by omega
      have HF : Hid (V = j) := by rw [← HU.out, drop_all (Nat.le_refl _), ucnt_nil]; rfl
      clear HU
      go_wp2
      go_ret
      exact ⟨by rw [HF.out]; rfl, rfl⟩
set_option maxHeartbeats 1000000 in
theorem rcount_any (s : ByteArray) (hmax : s.size ≤ 140737488351232) (w : World) :
    Calls Try.prog 14 #[.string s] w fun e w' => e = .returned (.int .i64 (ucnt s.data.toList : Nat)) ∧ w' = w := by
  obtain ⟨V, hV⟩ : ∃ V, ucnt (s.data.toList.drop 0) = V := ⟨_, rfl⟩
  have HV : Hid (0 + ucnt (s.data.toList.drop 0) = V) := by rw [Nat.zero_add]; exact hV
  rw [List.drop_zero] at hV
  rw [hV]
  clear hV
  go_enter Try.func14, Try.ntmps14
  go_wp2
  go_loop [3, 4] (fun i p => ∃ k j : Nat, k ≤ s.size ∧ j ≤ k ∧ p = .int .i64 (k : Nat) ∧ i = .int .i64 (j : Nat) ∧ Hid (j + ucnt (s.data.toList.drop k) = V)) (fun _ p => s.size - (intOf p).toNat)
  case atStart => exact ⟨0, 0, Nat.zero_le _, Nat.le_refl _, rfl, rfl, HV⟩
  case round =>
    obtain ⟨k, j, hk, hj, rfl, rfl, HU⟩ := hrel
    by_cases hlt : k < s.size
    · have C := fun W => rnext_any s hmax (k : Int) W
      rw [uat_nat] at C
      have hlti : (k : Int) < (s.size : Int) := by omega
      have hne := drop_ne hlt
      have hstep := ucnt_cons hne
      have hn := unn_pos hne
      rw [len_drop] at hn
      rw [drop_drop'] at hstep
      unfold nans at C
      have HF : Hid (j + 1 + ucnt (s.data.toList.drop (k + unn (s.data.toList.drop k))) = V) := by rw [← HU.out, hstep]; unfold Hid; omega
      clear hstep HU hne
      generalize unn (s.data.toList.drop k) = n at C hn HF
      generalize unc (s.data.toList.drop k) = c at C
      obtain ⟨hn1, hn2, hn3⟩ := hn
      have HC := Lib.hid C; clear C
      go_wp2_with (go_at_call 10; ((with_reducible refine (HC.out _).mono ?_); rintro e w' ⟨rfl, rfl⟩))
      go_round
      case rel => exact ⟨k + n, j + 1, by omega, by omega, by go_num, by go_num, HF⟩
      case measure => simp [intOf]; omega
    · obtain rfl : k = s.size := by omega
      have HF : Hid (V = j) := by rw [← HU.out, drop_all (Nat.le_refl _), ucnt_nil]; rfl
      clear HU
      go_wp2
      go_ret
      exact ⟨by rw [HF.out]; rfl, rfl⟩
set_option maxHeartbeats 1000000 in
theorem cut_any (s : ByteArray) (hmax : s.size ≤ 140737488351232) (m : Int) (hm0 : -9223372036854775808 ≤ m) (hm1 : m ≤ 9223372036854775807) (w : World) :
    Calls Try.prog 17 #[.string s, .int .i64 m] w fun e w' => e = .returned (.string (s.extract 0 (ucut s.data.toList m.toNat))) ∧ Below w.heap.size w w' := by
  obtain ⟨V, hV⟩ : ∃ V, ucut (s.data.toList.drop 0) m.toNat = V := ⟨_, rfl⟩
  have HV : Hid (0 + ucut (s.data.toList.drop 0) m.toNat = V) := by rw [Nat.zero_add]; exact hV
  rw [List.drop_zero] at hV
  rw [hV]
  clear hV
  go_enter Try.func17, Try.ntmps17
  go_wp2
  go_loop [1, 5] (fun n p => ∃ (k : Nat) (j : Int), k ≤ s.size ∧ j ≤ m ∧ -9223372036854775808 ≤ j ∧ p = .int .i64 (k : Nat) ∧ n = .int .i64 j ∧ Hid (k + ucut (s.data.toList.drop k) j.toNat = V)) (fun _ p => s.size - (intOf p).toNat)
  case atStart => exact ⟨0, m, Nat.zero_le _, Int.le_refl _, hm0, rfl, rfl, HV⟩
  case round =>
    obtain ⟨k, j, hk, hjm, hjl, rfl, rfl, HU⟩ := hrel
    by_cases hlt : k < s.size
    · by_cases hj : 0 < j
      · have C := fun W => next_any s hmax (k : Int) W
        rw [uat_nat] at C
        have hlti : (k : Int) < (s.size : Int) := by omega
        have hne := drop_ne hlt
        have hn := unn_pos hne
        rw [len_drop] at hn
        unfold nans at C
        have HF : Hid (k + unn (s.data.toList.drop k) + ucut (s.data.toList.drop (k + unn (s.data.toList.drop k))) (j - 1).toNat = V) := by
          rw [← HU.out]
          rw [show j.toNat = (j - 1).toNat + 1 from by omega]
          unfold Hid
          rw [show ucut (s.data.toList.drop k) ((j - 1).toNat + 1) = unn (s.data.toList.drop k) + ucut ((s.data.toList.drop k).drop (unn (s.data.toList.drop k))) (j - 1).toNat from by rw [ucut, if_neg hne], drop_drop']
          omega
        clear HU hne
        generalize unn (s.data.toList.drop k) = n at C hn HF
        generalize unc (s.data.toList.drop k) = c at C
        obtain ⟨hn1, hn2, hn3⟩ := hn
        have HC := Lib.hid C; clear C
        go_wp2_with (go_at_call 9; ((with_reducible refine (HC.out _).mono ?_); rintro e w' ⟨rfl, rfl⟩))
        go_round
        case rel => exact ⟨k + n, j - 1, by omega, by omega, by omega, by go_num, by go_num, HF⟩
        case measure => simp [intOf]; omega
      · have HF : Hid (V = k) := by rw [← HU.out, show j.toNat = 0 from by omega]; rfl
        clear HU
        have hj' : j ≤ 0 := by omega
        have HX := Lib.hid (fun W => clone_any (s.extract 0 k) (by rw [ByteArray.size_extract]; omega) W)
        have hk0 : (0 : Int) ≤ (k : Int) := by omega
        have hk1 : (k : Int) ≤ (s.size : Int) := by omega
        go_wp2_with (go_at_call 23; ((with_reducible refine (HX.out _).mono ?_); rintro e w1 ⟨rfl, hb⟩))
        go_ret
        exact ⟨by rw [HF.out]; rfl, hb⟩
    · obtain ⟨hk', HF⟩ : k = s.size ∧ Hid (V = k) := ⟨by omega, by rw [← HU.out, drop_all (by omega), ucut_nil]; rfl⟩
      clear HU
      have hge : (s.size : Int) ≤ (k : Int) := by omega
      clear hk'
      by_cases hj : 0 < j
      · have HX := Lib.hid (fun W => clone_any (s.extract 0 k) (by rw [ByteArray.size_extract]; omega) W)
        have hk0 : (0 : Int) ≤ (k : Int) := by omega
        have hk1 : (k : Int) ≤ (s.size : Int) := by omega
        go_wp2_with (go_at_call 23; ((with_reducible refine (HX.out _).mono ?_); rintro e w1 ⟨rfl, hb⟩))
        go_ret
        exact ⟨by rw [HF.out]; rfl, hb⟩
      · have hj' : j ≤ 0 := by omega
        have HX := Lib.hid (fun W => clone_any (s.extract 0 k) (by rw [ByteArray.size_extract]; omega) W)
        have hk0 : (0 : Int) ≤ (k : Int) := by omega
        have hk1 : (k : Int) ≤ (s.size : Int) := by omega
        go_wp2_with (go_at_call 23; ((with_reducible refine (HX.out _).mono ?_); rintro e w1 ⟨rfl, hb⟩))
        go_ret
        exact ⟨by rw [HF.out]; rfl, hb⟩
set_option maxHeartbeats 1000000 in
theorem rcut_any (s : ByteArray) (hmax : s.size ≤ 140737488351232) (m : Int) (hm0 : -9223372036854775808 ≤ m) (hm1 : m ≤ 9223372036854775807) (w : World) :
    Calls Try.prog 18 #[.string s, .int .i64 m] w fun e w' => e = .returned (.string (s.extract 0 (ucut s.data.toList m.toNat))) ∧ w' = w := by
  obtain ⟨V, hV⟩ : ∃ V, ucut (s.data.toList.drop 0) m.toNat = V := ⟨_, rfl⟩
  have HV : Hid (0 + ucut (s.data.toList.drop 0) (m - ((0 : Nat) : Int)).toNat = V) := by rw [Nat.zero_add, show m - ((0 : Nat) : Int) = m from by omega]; exact hV
  rw [List.drop_zero] at hV
  rw [hV]
  clear hV
  go_enter Try.func18, Try.ntmps18
  go_wp2
  go_loop [5, 6] (fun p i => ∃ k j : Nat, k ≤ s.size ∧ j ≤ k ∧ p = .int .i64 (k : Nat) ∧ i = .int .i64 (j : Nat) ∧ Hid (k + ucut (s.data.toList.drop k) (m - (j : Int)).toNat = V)) (fun p _ => s.size - (intOf p).toNat)
  case atStart => exact ⟨0, 0, Nat.zero_le _, Nat.le_refl _, rfl, rfl, HV⟩
  case round =>
    obtain ⟨k, j, hk, hjk, rfl, rfl, HU⟩ := hrel
    by_cases hlt : k < s.size
    · by_cases hj : (j : Int) < m
      · have C := fun W => rnext_any s hmax (k : Int) W
        rw [uat_nat] at C
        have hlti : (k : Int) < (s.size : Int) := by omega
        have hne := drop_ne hlt
        have hn := unn_pos hne
        rw [len_drop] at hn
        unfold nans at C
        have HF : Hid (k + unn (s.data.toList.drop k) + ucut (s.data.toList.drop (k + unn (s.data.toList.drop k))) (m - (j : Int) - 1).toNat = V) := by
          rw [← HU.out]
          rw [show (m - (j : Int)).toNat = (m - (j : Int) - 1).toNat + 1 from by omega]
          unfold Hid
          rw [show ucut (s.data.toList.drop k) ((m - (j : Int) - 1).toNat + 1) = unn (s.data.toList.drop k) + ucut ((s.data.toList.drop k).drop (unn (s.data.toList.drop k))) (m - (j : Int) - 1).toNat from by rw [ucut, if_neg hne], drop_drop']
          omega
        clear HU hne
        generalize unn (s.data.toList.drop k) = n at C hn HF
        generalize unc (s.data.toList.drop k) = c at C
        obtain ⟨hn1, hn2, hn3⟩ := hn
        have HC := Lib.hid C; clear C
        go_wp2_with (go_at_call 10; ((with_reducible refine (HC.out _).mono ?_); rintro e w' ⟨rfl, rfl⟩))
        go_round
        case rel => exact ⟨k + n, j + 1, by omega, by omega, by go_num, by go_num, by rw [show m - (((j + 1 : Nat)) : Int) = m - (j : Int) - 1 from by omega]; exact HF⟩
        case measure => simp [intOf]; omega
      · have HF : Hid (V = k) := by rw [← HU.out, show (m - (j : Int)).toNat = 0 from by omega]; rfl
        clear HU
        have hj' : m ≤ (j : Int) := by omega
        have hk0 : (0 : Int) ≤ (k : Int) := by omega
        have hk1 : (k : Int) ≤ (s.size : Int) := by omega
        go_wp2
        go_ret
        exact ⟨by rw [HF.out]; rfl, rfl⟩
    · obtain ⟨hk', HF⟩ : k = s.size ∧ Hid (V = k) := ⟨by omega, by rw [← HU.out, drop_all (by omega), ucut_nil]; rfl⟩
      clear HU
      have hge : (s.size : Int) ≤ (k : Int) := by omega
      clear hk'
      by_cases hj : (j : Int) < m
      · have hk0 : (0 : Int) ≤ (k : Int) := by omega
        have hk1 : (k : Int) ≤ (s.size : Int) := by omega
        go_wp2
        go_ret
        exact ⟨by rw [HF.out]; rfl, rfl⟩
      · have hj' : m ≤ (j : Int) := by omega
        have hk0 : (0 : Int) ≤ (k : Int) := by omega
        have hk1 : (k : Int) ≤ (s.size : Int) := by omega
        go_wp2
        go_ret
        exact ⟨by rw [HF.out]; rfl, rfl⟩
/-- A code point's bytes as a text; the empty one of what is none. -/
def uput (c : Int) : ByteArray := if zlng c = 0 then ⟨#[]⟩ else ⟨(uenc c.toNat).toArray⟩
theorem uput_none {c : Int} (h : zlng c = 0) : uput c = ⟨#[]⟩ := by unfold uput; rw [if_pos h]
theorem uput_some {c : Int} (h : zlng c ≠ 0) : uput c = ⟨(uenc c.toNat).toArray⟩ := by unfold uput; rw [if_neg h]
theorem zlng_some {c : Int} (h : zlng c ≠ 0) : 0 ≤ c ∧ c ≤ 1114111 ∧ (c < 55296 ∨ 57343 < c) := by rcases zlng_cases c with h1 | h1 | h1 | h1 | h1 | h1 <;> omega
theorem encode_put {c : Int} (h : zlng c ≠ 0) : Utf8.encode c = uput c := by
  obtain ⟨h0, h1, h2⟩ := zlng_some h
  rw [uput_some h]
  have hv : Utf8.valid c = true := by rw [validRune_eq]; unfold validRune; exact decide_eq_true (by omega)
  unfold Utf8.encode uenc
  simp only [hv, if_true]
  by_cases a1 : c.toNat < 128
  · rw [if_pos a1, if_pos a1]
  by_cases a2 : c.toNat < 2048
  · rw [if_neg a1, if_neg a1, if_pos a2, if_pos a2]
  by_cases a3 : c.toNat < 65536
  · rw [if_neg a1, if_neg a1, if_neg a2, if_neg a2, if_pos a3, if_pos a3]
  · rw [if_neg a1, if_neg a1, if_neg a2, if_neg a2, if_neg a3, if_neg a3]
theorem put_any (c : Int) (w : World) :
    Calls Try.prog 15 #[.int .i64 c] w fun e w' => e = .returned (.string (uput c)) ∧ w' = w := by
  have C := fun W => length_any c W
  by_cases h : zlng c = 0
  · rw [uput_none h]
    rw [h] at C
    have HC := Lib.hid C; clear C h
    go_enter Try.func15, Try.ntmps15
    go_wp2_with (go_at_call 21; ((with_reducible refine (HC.out _).mono ?_); rintro e w' ⟨rfl, rfl⟩))
    go_ret
    exact ⟨rfl, rfl⟩
  · obtain ⟨h0, h1, h2⟩ := zlng_some h
    have he := Lib.hid (encode_put h)
    have hz : ((zlng c : Int) == 0) = false := by rw [beq_eq_false_iff_ne]; omega
    have hw : IntKind.i32.wrap c = c := by simp [IntKind.wrap, IntKind.bits, IntKind.signed]; omega
    clear h h2
    generalize zlng c = L at C hz
    have HC := Lib.hid C; clear C
    go_enter Try.func15, Try.ntmps15
    go_wp2_with (go_at_call 21; ((with_reducible refine (HC.out _).mono ?_); rintro e w' ⟨rfl, rfl⟩))
    go_ret
    exact ⟨by rw [← he.out]; rfl, rfl⟩
end Go.Proofs.Ytoibaeilbolffaa
