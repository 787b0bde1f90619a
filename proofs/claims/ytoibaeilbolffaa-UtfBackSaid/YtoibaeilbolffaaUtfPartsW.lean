/-
  entrepotlaw5.UtfParts answers true for any two texts.
-/
import Derived.Test.YtoibaeilbolffaaUtfTold
namespace Go.Proofs.Ytoibaeilbolffaa
open Go.RowKit

theorem beq_bytes (a : ByteArray) : (a == a) = true := by
  show (a.data == a.data) = true
  exact beq_self_eq_true _
theorem ubtr {w X Y : World} (h : Below w.heap.size w X) (k : Below X.heap.size X Y) : Below w.heap.size w Y := h.trans (k.mono h.size)
theorem parts_told (a b : ByteArray) (w : World) (h : 200 < (a.size : Int) ∨ (¬ 200 < (a.size : Int) ∧ 200 < (b.size : Int))) :
    Calls Try.prog 6 #[.string a, .string b] w fun e w' => e = .returned (.bool true) ∧ Below w.heap.size w w' := by
  rcases h with h | ⟨h, h2⟩
  · go_enter Try.func6, Try.ntmps6
    go_wp2_with (go_at_call 8; ((with_reducible refine (told5_true _).mono ?_); rintro e w1 ⟨rfl, hb1⟩))
    go_ret
    exact ⟨rfl, hb1⟩
  · have h' : (a.size : Int) ≤ 200 := by omega
    go_enter Try.func6, Try.ntmps6
    go_wp2_with (go_at_call 8; ((with_reducible refine (told5_true _).mono ?_); rintro e w1 ⟨rfl, hb1⟩))
    go_ret
    exact ⟨rfl, hb1⟩
theorem parts_bad1 (a b : ByteArray) (w : World) (h1 : (a.size : Int) ≤ 200) (h2 : (b.size : Int) ≤ 200) (k1 : ∀ W, Calls Try.prog 11 #[.string a] W fun e w' => e = .returned (.bool false) ∧ w' = W) :
    Calls Try.prog 6 #[.string a, .string b] w fun e w' => e = .returned (.bool true) ∧ Below w.heap.size w w' := by
  have K1 := Lib.hid k1; clear k1
  go_enter Try.func6, Try.ntmps6
  go_wp2_with (first | (go_at_call 11; ((with_reducible refine (K1.out _).mono ?_); rintro e w' ⟨rfl, rfl⟩)) | (go_at_call 8; ((with_reducible refine (told5_true _).mono ?_); rintro e w1 ⟨rfl, hb1⟩)))
  go_ret
  exact ⟨rfl, hb1⟩
theorem parts_bad2 (a b : ByteArray) (w : World) (h1 : (a.size : Int) ≤ 200) (h2 : (b.size : Int) ≤ 200) (k1 : ∀ W, Calls Try.prog 11 #[.string a] W fun e w' => e = .returned (.bool true) ∧ w' = W) (k2 : ∀ W, Calls Try.prog 11 #[.string b] W fun e w' => e = .returned (.bool false) ∧ w' = W) :
    Calls Try.prog 6 #[.string a, .string b] w fun e w' => e = .returned (.bool true) ∧ Below w.heap.size w w' := by
  have K1 := Lib.hid k1; have K2 := Lib.hid k2; clear k1 k2
  go_enter Try.func6, Try.ntmps6
  go_wp2_with fail
  (with_reducible refine (K1.out _).mono ?_)
  rintro e w' ⟨rfl, rfl⟩
  go_wp2_with fail
  (with_reducible refine (K2.out _).mono ?_)
  rintro e w' ⟨rfl, rfl⟩
  go_wp2_with (go_at_call 8; ((with_reducible refine (told5_true _).mono ?_); rintro e w1 ⟨rfl, hb1⟩))
  go_ret
  exact ⟨rfl, hb1⟩
set_option maxHeartbeats 1000000 in
theorem parts_core (a b : ByteArray) (n m : Nat) (h1 : (a.size : Int) ≤ 200) (h2 : (b.size : Int) ≤ 200) (hn : n ≤ 200) (hm : m ≤ 200) (w : World)
    (k1 : ∀ W, Calls Try.prog 11 #[.string a] W fun e w' => e = .returned (.bool true) ∧ w' = W)
    (k2 : ∀ W, Calls Try.prog 11 #[.string b] W fun e w' => e = .returned (.bool true) ∧ w' = W)
    (k3 : ∀ W, Calls Try.prog 13 #[.string a] W fun e w' => e = .returned (.int .i64 (n : Int)) ∧ w' = W)
    (k4 : ∀ W, Calls Try.prog 11 #[.string (a ++ b)] W fun e w' => e = .returned (.bool true) ∧ w' = W)
    (k5 : ∀ W, Calls Try.prog 13 #[.string (a ++ b)] W fun e w' => e = .returned (.int .i64 ((n : Int) + (m : Int))) ∧ w' = W)
    (k6 : ∀ W, Calls Try.prog 13 #[.string b] W fun e w' => e = .returned (.int .i64 (m : Int)) ∧ w' = W)
    (k7 : ∀ W, Calls Try.prog 17 #[.string (a ++ b), .int .i64 (n : Int)] W fun e w' => e = .returned (.string a) ∧ Below W.heap.size W w')
    (k8 : ∀ W, Calls Try.prog 17 #[.string a, .int .i64 (-3)] W fun e w' => e = .returned (.string ⟨#[]⟩) ∧ Below W.heap.size W w') :
    Calls Try.prog 6 #[.string a, .string b] w fun e w' => e = .returned (.bool true) ∧ Below w.heap.size w w' := by
  have K1 := Lib.hid k1; have K2 := Lib.hid k2; have K3 := Lib.hid k3; have K4 := Lib.hid k4; have K5 := Lib.hid k5; have K6 := Lib.hid k6; have K7 := Lib.hid k7; have K8 := Lib.hid k8; clear k1 k2 k3 k4 k5 k6 k7 k8
  have ea : (a == a) = true := beq_bytes a
  go_enter Try.func6, Try.ntmps6
  go_wp2_with fail
  (with_reducible refine (K1.out _).mono ?_)
  rintro e w' ⟨rfl, rfl⟩
  go_wp2_with fail
  (with_reducible refine (K2.out _).mono ?_)
  rintro e w' ⟨rfl, rfl⟩
  go_wp2_with fail
  (with_reducible refine (K3.out _).mono ?_)
  rintro e w' ⟨rfl, rfl⟩
  go_wp2_with fail
  (with_reducible refine (told5_true _).mono ?_)
  rintro e w1 ⟨rfl, hb1⟩
  go_wp2_with fail
  (with_reducible refine (K4.out _).mono ?_)
  rintro e w' ⟨rfl, rfl⟩
  go_wp2_with fail
  (with_reducible refine (K5.out _).mono ?_)
  rintro e w' ⟨rfl, rfl⟩
  go_wp2_with fail
  (with_reducible refine (K6.out _).mono ?_)
  rintro e w' ⟨rfl, rfl⟩
  go_wp2_with fail
  (with_reducible refine (K7.out _).mono ?_)
  rintro e w2 ⟨rfl, hb2⟩
  go_wp2_with fail
  (with_reducible refine (K8.out _).mono ?_)
  rintro e w3 ⟨rfl, hb3⟩
  go_wp2
  go_ret
  exact ⟨rfl, ubtr (ubtr hb1 hb2) hb3⟩
theorem app_list (a b : ByteArray) : (a ++ b).data.toList = a.data.toList ++ b.data.toList := by rw [ByteArray.data_append, Array.toList_append]
theorem len_list (a : ByteArray) : a.data.toList.length = a.size := by rw [Array.length_toList]; rfl
theorem ext_list {a b : ByteArray} (h : a.data.toList = b.data.toList) : a = b := by
  apply ByteArray.ext
  exact Array.toList_inj.1 h
theorem extract_list (a : ByteArray) (i j : Nat) : (a.extract i j).data.toList = (a.data.toList.take j).drop i := by
  rw [ByteArray.data_extract, Array.toList_extract, List.extract_eq_take_drop, List.drop_take]
theorem parts_any (a b : ByteArray) (w : World) :
    Calls Try.prog 6 #[.string a, .string b] w fun e w' => e = .returned (.bool true) ∧ Below w.heap.size w w' := by
  by_cases h1 : 200 < (a.size : Int)
  · exact parts_told a b w (Or.inl h1)
  by_cases h2 : 200 < (b.size : Int)
  · exact parts_told a b w (Or.inr ⟨h1, h2⟩)
  have la := len_list a
  have lb := len_list b
  have lab : (a ++ b).size = a.size + b.size := by rw [ByteArray.size_append]
  have k1 := fun W => valid_any a (by omega) W
  have k2 := fun W => valid_any b (by omega) W
  cases hv : uval a.data.toList with
  | false =>
    rw [hv] at k1
    exact parts_bad1 a b w (by omega) (by omega) k1
  | true =>
    rw [hv] at k1
    cases hv2 : uval b.data.toList with
    | false =>
      rw [hv2] at k2
      exact parts_bad2 a b w (by omega) (by omega) k1 k2
    | true =>
      rw [hv2] at k2
      obtain ⟨v1, v2, v3⟩ := uval_both _ a.data.toList b.data.toList (Nat.le_refl _) hv
      have k4 := fun W => valid_any (a ++ b) (by omega) W
      have k5 := fun W => count_any (a ++ b) (by omega) W
      have k7 := fun W => cut_any (a ++ b) (by omega) (ucnt a.data.toList : Nat) (by omega) (by have := ucnt_le _ a.data.toList (Nat.le_refl _); omega) W
      have k8 := fun W => cut_any a (by omega) (-3) (by decide) (by decide) W
      rw [app_list, v1, hv2] at k4
      rw [app_list, v2] at k5
      rw [Int.toNat_natCast, app_list, v3, la] at k7
      have ex : (a ++ b).extract 0 a.size = a := by
        apply ext_list
        rw [extract_list, app_list, List.drop_zero, ← la, List.take_left]
      rw [ex] at k7
      have ex0 : a.extract 0 (ucut a.data.toList (-3 : Int).toNat) = ⟨#[]⟩ := by
        apply ext_list
        rw [extract_list]
        rfl
      rw [ex0] at k8
      have c1 := ucnt_le _ a.data.toList (Nat.le_refl _)
      have c2 := ucnt_le _ b.data.toList (Nat.le_refl _)
      exact parts_core a b (ucnt a.data.toList) (ucnt b.data.toList) (by omega) (by omega) (by omega) (by omega) w k1 k2 (fun W => count_any a (by omega) W) k4 k5 (fun W => count_any b (by omega) W) k7 k8
end Go.Proofs.Ytoibaeilbolffaa
