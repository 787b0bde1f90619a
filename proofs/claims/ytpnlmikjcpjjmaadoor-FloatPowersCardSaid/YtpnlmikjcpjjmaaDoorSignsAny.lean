/-
  entrepotlaw3.FloatSigns answers true for all bits. The table math/bits.deBruijn64tab reads as its initialiser lays it.
-/
import Derived.Test.YtpnlmikjcpjjmaaDoorSignsWalk
import Derived.Test.YtpnlmikjcpjjmaaDoorBackAny
namespace Go.Proofs.YtpnlmikjcpjjmaaDoor
open Go.RowKit Go.Shelf

theorem xor_sign (b : Nat) (hb : b < 18446744073709551616) : bits .xor .u64 (b : Int) 9223372036854775808 = ((osg b : Nat) : Int) :=
  u64_xor_nat b 9223372036854775808 hb (by decide)
theorem whl_lt {b n : Nat} (h : whl b = some n) : n < 2 ^ 256 := by
  unfold whl at h
  split at h
  · rename_i hc; cases h; exact hc.2.2
  · cases h
theorem wend_none {b : Nat} (h : whl b = none) : WEnd b = .tuple #[Z5, .bool false] := by unfold WEnd; rw [h]
theorem wend_zero {b : Nat} (h : whl b = some 0) : WEnd b = .tuple #[Z5, .bool true] := by
  unfold WEnd
  rw [h]
  have e0 : (if sg b = 1 then -((0 : Nat) : Int) else ((0 : Nat) : Int)) = 0 := by split <;> rfl
  simp only [e0]
  rw [← Iz_zero]
theorem wend_pos {b n : Nat} (hb : b < 18446744073709551616) (h : whl b = some n) (h0 : n ≠ 0) : WEnd b = .tuple #[I5 (decide (sg b = 1)) n, .bool true] := by
  have h2 : sg b = 0 ∨ sg b = 1 := by unfold sg; omega
  unfold WEnd
  rw [h]
  rcases h2 with h2 | h2
  · simp only [h2]
    rw [if_neg (by decide), Iz_nat, decide_eq_false (by decide)]
  · simp only [h2]
    rw [if_pos trivial, Iz_neg h0, decide_eq_true trivial]
theorem cls_whole {b n : Nat} (h : whl b = some n) : cls b = 0 := by
  have hr : rg b < INF := by
    unfold whl at h
    split at h
    · rename_i hc; exact hc.1
    · cases h
  unfold cls
  rw [if_neg (by omega), if_neg (by omega), h]
  rfl
theorem behind_b (b : Nat) (hb : b < 18446744073709551616) (w : World) (hT : Tb w) :
    Calls Tryd.prog 83 #[.int .u64 b] w fun e w' => e = .returned (.int .i64 (beh b : Nat)) ∧ Below w.heap.size w w' := calls_below (behind_any b hb w hT)
set_option maxHeartbeats 1000000 in
theorem signs_any (b : Int) (h0 : 0 ≤ b) (h1 : b ≤ 18446744073709551615) (w : World) (hT : Tb w) :
    Calls Tryd.prog 14 #[.int .u64 b] w fun e w' => e = .returned (.bool true) ∧ Below w.heap.size w w' := by
  obtain ⟨b, rfl⟩ := Int.eq_ofNat_of_zero_le h0
  have hb : b < 18446744073709551616 := by omega
  have ho := osg_lt hb
  have e1 := xor_sign b hb
  have k1 := fun W hW => whole_any b hb W hW
  have k2 := fun W hW => whole_any (osg b) ho W hW
  have k3 := fun W => tohalf_b b hb W
  have k4 := fun W => tohalf_b (osg b) ho W
  have k5 := fun W => tosingle_any b hb W
  have k6 := fun W => tosingle_any (osg b) ho W
  have k7 := fun W hW => behind_b b hb W hW
  have k8 := fun W hW => behind_b (osg b) ho W hW
  have k9 := fun W hW => class_any b hb W hW
  have k10 := fun W hW => class_any (osg b) ho W hW
  have kt := fun W hW => told3_true W hW
  rw [beh_sign] at k8
  rw [toh_sign] at k4
  rw [tos_sign hb] at k6
  have hxy : (toh b).2 = true → (tos b).2 = true := toh_tos hb
  have hc := cls_sign hb
  have hle := cls_le b
  cases hw : whl b with
  | none =>
    have hw2 : whl (osg b) = none := by rw [whl_sign]; exact hw
    rw [wend_none hw] at k1
    rw [wend_none hw2] at k2
    cases hx : (toh b).2 with
    | false =>
      rw [hx] at k3 k4
      rcases hc with hc | ⟨c1, c2⟩ | ⟨c1, c2⟩
      · rw [← hc] at k10
        exact signs_none_false_same b _ _ _ _ _ _ _ _ e1 (by omega) (by omega) k1 k2 k3 k4 k5 k6 k7 k8 k9 k10 kt w hT
      · rw [c1] at k9; rw [c2] at k10
        exact signs_none_false_48 b _ _ _ _ _ _ _ e1 k1 k2 k3 k4 k5 k6 k7 k8 k9 k10 kt w hT
      · rw [c1] at k9; rw [c2] at k10
        exact signs_none_false_84 b _ _ _ _ _ _ _ e1 k1 k2 k3 k4 k5 k6 k7 k8 k9 k10 kt w hT
    | true =>
      rw [hxy hx] at k5 k6
      rw [hx] at k3 k4
      rcases hc with hc | ⟨c1, c2⟩ | ⟨c1, c2⟩
      · rw [← hc] at k10
        exact signs_none_true_same b _ _ _ _ _ _ _ e1 (by omega) (by omega) k1 k2 k3 k4 k5 k6 k7 k8 k9 k10 kt w hT
      · rw [c1] at k9; rw [c2] at k10
        exact signs_none_true_48 b _ _ _ _ _ _ e1 k1 k2 k3 k4 k5 k6 k7 k8 k9 k10 kt w hT
      · rw [c1] at k9; rw [c2] at k10
        exact signs_none_true_84 b _ _ _ _ _ _ e1 k1 k2 k3 k4 k5 k6 k7 k8 k9 k10 kt w hT
  | some n =>
    have hw2 : whl (osg b) = some n := by rw [whl_sign]; exact hw
    have hn := whl_lt hw
    rw [cls_whole hw] at k9
    rw [cls_whole hw2] at k10
    by_cases z : n = 0
    · subst z
      rw [wend_zero hw] at k1
      rw [wend_zero hw2] at k2
      cases hx : (toh b).2 with
      | false =>
        rw [hx] at k3 k4
        exact signs_zero_false_same b _ _ _ _ _ _ 0 _ e1 (by omega) (by omega) k1 k2 k3 k4 k5 k6 k7 k8 k9 k10 kt w hT
      | true =>
        rw [hxy hx] at k5 k6
        rw [hx] at k3 k4
        exact signs_zero_true_same b _ _ _ _ _ _ 0 e1 (by omega) (by omega) k1 k2 k3 k4 k5 k6 k7 k8 k9 k10 kt w hT
    · rw [wend_pos hb hw z] at k1
      rw [wend_pos ho hw2 z] at k2
      have hg : decide (sg (osg b) = 1) = !decide (sg b = 1) := by
        rw [osg_sg hb]
        have h2 : sg b = 0 ∨ sg b = 1 := by unfold sg; omega
        rcases h2 with h2 | h2 <;> rw [h2] <;> rfl
      rw [hg] at k2
      have q1 := eq4_nat n n hn hn
      have q2 := zq n hn
      have q3 : (decide (sg b = 1) == !decide (sg b = 1)) = false := by cases decide (sg b = 1) <;> rfl
      rw [decide_eq_true rfl] at q1
      rw [decide_eq_false z] at q2
      cases hx : (toh b).2 with
      | false =>
        rw [hx] at k3 k4
        exact signs_pos_false_same b _ _ _ _ _ _ 0 _ _ _ _ _ _ e1 (by omega) (by omega) q1 q2 q3 k1 k2 k3 k4 k5 k6 k7 k8 k9 k10 kt w hT
      | true =>
        rw [hxy hx] at k5 k6
        rw [hx] at k3 k4
        exact signs_pos_true_same b _ _ _ _ _ _ 0 _ _ _ _ _ e1 (by omega) (by omega) q1 q2 q3 k1 k2 k3 k4 k5 k6 k7 k8 k9 k10 kt w hT
end Go.Proofs.YtpnlmikjcpjjmaaDoor
