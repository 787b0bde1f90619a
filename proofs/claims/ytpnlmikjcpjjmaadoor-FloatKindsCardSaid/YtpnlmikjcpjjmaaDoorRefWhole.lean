/-
  The reference's Behind, whole, Whole: the contracts, for every word of 64 bits.
-/
import Derived.Test.YtpnlmikjcpjjmaaDoorRefParts
import Derived.Test.YtpnlmikjcpjjmaaDoorRefNat
import Derived.Test.YtpnlmikjcpjjmaaDoorFltE
import Derived.BigRegion
import Derived.RegionTactic
namespace Go.Proofs.YtpnlmikjcpjjmaaDoor
open Go.RowKit Go.Shelf
attribute [local go_sem ↓] eql_nat neq_nat eql_int5 neq_int5

set_option maxHeartbeats 1000000 in
set_option maxRecDepth 100000 in
theorem rbehind_inf (b : Nat) (hb : b < 18446744073709551616) (h : ¬ rg b < INF) (w : World) :
    Calls Tryd.prog 84 #[.int .u64 b] w fun e w' => e = .returned (.int .i64 0) ∧ Below w.heap.size w w' := by
  have HP := Lib.hid (fun W => rparts_inf b hb h W); clear hb h
  go_enter Tryd.func84, Tryd.ntmps84
  go_wp2_with fail
  (with_reducible refine (HP.out _).mono ?_)
  rintro e w1 ⟨rfl, hw⟩
  rw [hw]; clear hw w1
  go_wp2
  go_ret
  exact ⟨rfl, Below.refl _ _⟩
theorem dg_len (b : Nat) : (digs (dg b)).length ≤ 1000 := Nat.le_trans (digs_len.2 (show dg b < 2 ^ (32 * 2) from dg_lt b)) (by decide)
set_option maxHeartbeats 1000000 in
set_option maxRecDepth 100000 in
theorem rbehind_zero (b : Nat) (hb : b < 18446744073709551616) (h : rg b < INF) (h0 : dg b = 0) (w : World) :
    Calls Tryd.prog 84 #[.int .u64 b] w fun e w' => e = .returned (.int .i64 0) ∧ Below w.heap.size w w' := by
  have HP := Lib.hid (fun W => rparts_fin b hb h W); clear hb h
  rw [h0] at HP
  generalize ex b = E at HP
  generalize (sg b == 1) = g at HP
  go_enter Tryd.func84, Tryd.ntmps84
  go_wp2_with fail
  (with_reducible refine (HP.out _).mono ?_)
  rintro e w1 ⟨s', rfl, hr, hb⟩
  have hl := rlen hr (by rw [digs_zero]; exact Nat.zero_le _)
  rw [show blen 0 = 0 from rfl] at hl
  have HL := Lib.hid hl; have HB := Lib.hid hb; clear hl hr hb
  go_wp2_with fail
  (with_reducible refine HL.out.mono ?_)
  rintro e w2 ⟨rfl, hw⟩
  rw [hw]; clear hw w2
  go_wp2
  go_ret
  exact ⟨rfl, HB.out⟩
set_option maxHeartbeats 1000000 in
set_option maxRecDepth 100000 in
theorem rbehind_core (b D t m L : Nat) (E : Int) (g : Bool) (hD : D = 2 ^ t * (2 * m + 1)) (hlD : (digs D).length ≤ 1000) (ht : t < 64) (hE0 : -1074 ≤ E) (hE1 : E ≤ 1000) (hL : L = blen D) (hL0 : ((L : Int) == 0) = false) (w : World)
    (hp : ∀ W, Calls Tryd.prog 121 #[.int .u64 b] W fun e w' => ∃ s', e = .returned (.tuple #[.bool g, s', .int .i64 E, .bool true]) ∧ DR w' s' D ∧ Below W.heap.size W w') :
    Calls Tryd.prog 84 #[.int .u64 b] w fun e w' => e = .returned (.int .i64 (max 0 (-E - (t : Int)))) ∧ Below w.heap.size w w' := by
  have HP := Lib.hid hp; have HD := Lib.hid hD; have HLD := Lib.hid hlD; have HLL := Lib.hid hL; clear hp hD hlD hL
  go_enter Tryd.func84, Tryd.ntmps84
  go_wp2_with fail
  (with_reducible refine (HP.out _).mono ?_)
  rintro e w1 ⟨s', rfl, hr, hb⟩
  have hl := rlen hr HLD.out
  rw [← HLL.out] at hl
  have htr := rtrail hr HLD.out HD.out (by omega)
  have HL := Lib.hid hl; have HT := Lib.hid htr; have HB := Lib.hid hb; clear hl htr hr hb
  go_wp2_with fail
  (with_reducible refine HL.out.mono ?_)
  rintro e w2 ⟨rfl, hw⟩
  rw [hw]; clear hw w2
  go_wp2_with fail
  (with_reducible refine HT.out.mono ?_)
  rintro e w2 ⟨rfl, hw⟩
  rw [hw]; clear hw w2
  go_wp2
  go_ret
  exact ⟨rfl, HB.out⟩
theorem ex_bounds (b : Nat) : -1074 ≤ ex b ∧ ex b ≤ 972 := by
  unfold ex
  split <;> omega
theorem pw_ex {b : Nat} (h : dg b ≠ 0) : pw b = ex b + (Lib.ctz 64 (dg b) : Nat) := by
  unfold pw ex
  rw [if_neg h]
  by_cases h0 : b / 4503599627370496 % 2048 = 0
  · rw [if_pos h0, h0]; omega
  · rw [if_neg h0]; omega
theorem rbehind (b : Nat) (hb : b < 18446744073709551616) (w : World) :
    Calls Tryd.prog 84 #[.int .u64 b] w fun e w' => e = .returned (.int .i64 (beh b : Nat)) ∧ Below w.heap.size w w' := by
  have he := ex_bounds b
  by_cases h : rg b < INF
  · by_cases h0 : dg b = 0
    · have e : beh b = 0 := by unfold beh pw; rw [if_pos h, if_pos h0]; rfl
      rw [e]
      exact rbehind_zero b hb h h0 w
    · obtain ⟨m, hm, ht⟩ := ctz_word h0 (dg_lt b)
      have e : ((beh b : Nat) : Int) = max 0 (-(ex b) - (Lib.ctz 64 (dg b) : Nat)) := by
        unfold beh
        rw [if_pos h, pw_ex h0]
        omega
      rw [e]
      exact rbehind_core b (dg b) _ m _ (ex b) (sg b == 1) hm (dg_len b) ht he.1 (by omega) rfl (by have := (blen_spec h0).1; rw [beq_eq_false_iff_ne]; omega) w (fun W => rparts_fin b hb h W)
  · have e : beh b = 0 := by unfold beh; rw [if_neg h]
    rw [e]
    exact rbehind_inf b hb h w
-- WHOLE
set_option maxHeartbeats 1000000 in
set_option maxRecDepth 100000 in
theorem rwh_false (s : Value) (x0 x1 x2 x3 : Int) (w : World)
    (k1 : ∀ W, Below w.heap.size w W → Calls Tryd.prog 34 #[s] W fun e w' => e = .returned (.tuple #[.agg #[.int .u64 x0, .int .u64 x1, .int .u64 x2, .int .u64 x3], .bool true]) ∧ Below W.heap.size W w') :
    Calls Tryd.prog 114 #[.bool false, s] w fun e w' => e = .returned (.tuple #[.agg #[.bool false, .int .u64 x0, .int .u64 x1, .int .u64 x2, .int .u64 x3], .bool true]) ∧ Below w.heap.size w w' := by
  have K1 := Lib.hid k1; clear k1
  go_enter Tryd.func114, Tryd.ntmps114
  go_wp2_with fail
  refine (K1.out _ (by repeat (first | (with_reducible exact Below.refl _ _) | (with_reducible refine bal ?_ _) | (with_reducible refine Below.drew ?_) | (with_reducible refine bdn ?_ _)))).mono ?_
  rintro e w1 ⟨rfl, hb⟩
  have BW1 : Below w.heap.size w w1 := btr (by repeat (first | (with_reducible exact Below.refl _ _) | (with_reducible refine bal ?_ _) | (with_reducible refine Below.drew ?_) | (with_reducible refine bdn ?_ _))) hb
  have R1 : Row5 w1 w.heap.size (.bool false) (.int .u64 0) (.int .u64 0) (.int .u64 0) (.int .u64 0) := Row5.keep hb (by repeat (first | (with_reducible exact Row5.new _ _ _ _ _ _) | ((with_reducible refine Row5.new' _ ?_ _ _ _ _ _); (simp; done)) | (with_reducible refine Row5.alloc ?_ _) | (with_reducible refine Row5.drew ?_)))
  clear hb
  go_upto_region 4 with (fail)
  go_name_world w2 hw2
  have BW2 : Below w.heap.size w w2 := by rw [← hw2]; repeat (first | (with_reducible exact BW1) | (with_reducible refine bal ?_ _) | (with_reducible refine Below.drew ?_) | (with_reducible refine bdn ?_ _))
  have R2 : Row5 w2 w.heap.size (.bool false) (.int .u64 0) (.int .u64 0) (.int .u64 0) (.int .u64 0) := by rw [← hw2]; exact (by repeat (first | (with_reducible exact R1) | (with_reducible refine Row5.alloc ?_ _) | (with_reducible refine Row5.drew ?_)))
  have apN_R := R1.lt
  have apN_0 := (BW1).size
  have N2 : Row4 w2 w1.heap.size (.int .u64 x0) (.int .u64 x1) (.int .u64 x2) (.int .u64 x3) := by rw [← hw2]; exact (by repeat (first | (with_reducible exact Row4.new _ _ _ _ _) | ((with_reducible refine Row4.new' _ ?_ _ _ _ _); (simp; done)) | (with_reducible refine Row4.alloc ?_ _) | (with_reducible refine Row4.drew ?_)))
  clear R1
  clear BW1
  clear hw2
  obtain ⟨Rc0, Rc1, Rc2, Rc3, Rc4⟩ := R2.parts
  obtain ⟨Rf0, Rf1, Rf2, Rf3, Rf4⟩ := R2.free
  obtain ⟨Nc0, Nc1, Nc2, Nc3⟩ := N2.four
  obtain ⟨Nf0, Nf1, Nf2, Nf3⟩ := N2.free4
  have lt_R := R2.lt
  have lt_N := N2.lt
  have neRN : ¬ w1.heap.size = w.heap.size := by omega
  have neNR : ¬ w.heap.size = w1.heap.size := by omega
  go_region
  all_goals go_wp2
  all_goals exact bodyPost_ret (v := .tuple #[.agg #[.bool false, .int .u64 x0, .int .u64 x1, .int .u64 x2, .int .u64 x3], .bool true]) (by simp [results, Tryd.results114, go_sem, Rc0, Rc1, Rc2, Rc3, Rc4]) rfl ⟨rfl, by repeat (first | (with_reducible exact BW2) | (with_reducible refine bal ?_ _) | (with_reducible refine Below.drew ?_) | (with_reducible refine bdn ?_ _) | ((with_reducible refine bsc ?_ ?_ _); rotate_left; (focus (simp only []; omega))))⟩
set_option maxHeartbeats 1000000 in
set_option maxRecDepth 100000 in
theorem rwh_true (s : Value) (x0 x1 x2 x3 : Int) (w : World)
    (k1 : ∀ W, Below w.heap.size w W → Calls Tryd.prog 34 #[s] W fun e w' => e = .returned (.tuple #[.agg #[.int .u64 x0, .int .u64 x1, .int .u64 x2, .int .u64 x3], .bool true]) ∧ Below W.heap.size W w') :
    Calls Tryd.prog 114 #[.bool true, s] w fun e w' => e = .returned (.tuple #[.agg #[.bool (!eq4 x0 x1 x2 x3 0 0 0 0), .int .u64 x0, .int .u64 x1, .int .u64 x2, .int .u64 x3], .bool true]) ∧ Below w.heap.size w w' := by
  have K1 := Lib.hid k1; clear k1
  go_enter Tryd.func114, Tryd.ntmps114
  go_wp2_with fail
  refine (K1.out _ (by repeat (first | (with_reducible exact Below.refl _ _) | (with_reducible refine bal ?_ _) | (with_reducible refine Below.drew ?_) | (with_reducible refine bdn ?_ _)))).mono ?_
  rintro e w1 ⟨rfl, hb⟩
  have BW1 : Below w.heap.size w w1 := btr (by repeat (first | (with_reducible exact Below.refl _ _) | (with_reducible refine bal ?_ _) | (with_reducible refine Below.drew ?_) | (with_reducible refine bdn ?_ _))) hb
  have R1 : Row5 w1 w.heap.size (.bool false) (.int .u64 0) (.int .u64 0) (.int .u64 0) (.int .u64 0) := Row5.keep hb (by repeat (first | (with_reducible exact Row5.new _ _ _ _ _ _) | ((with_reducible refine Row5.new' _ ?_ _ _ _ _ _); (simp; done)) | (with_reducible refine Row5.alloc ?_ _) | (with_reducible refine Row5.drew ?_)))
  clear hb
  go_upto_region 4 with (fail)
  go_name_world w2 hw2
  have BW2 : Below w.heap.size w w2 := by rw [← hw2]; repeat (first | (with_reducible exact BW1) | (with_reducible refine bal ?_ _) | (with_reducible refine Below.drew ?_) | (with_reducible refine bdn ?_ _))
  have R2 : Row5 w2 w.heap.size (.bool false) (.int .u64 0) (.int .u64 0) (.int .u64 0) (.int .u64 0) := by rw [← hw2]; exact (by repeat (first | (with_reducible exact R1) | (with_reducible refine Row5.alloc ?_ _) | (with_reducible refine Row5.drew ?_)))
  have apN_R := R1.lt
  have apN_0 := (BW1).size
  have N2 : Row4 w2 w1.heap.size (.int .u64 x0) (.int .u64 x1) (.int .u64 x2) (.int .u64 x3) := by rw [← hw2]; exact (by repeat (first | (with_reducible exact Row4.new _ _ _ _ _) | ((with_reducible refine Row4.new' _ ?_ _ _ _ _); (simp; done)) | (with_reducible refine Row4.alloc ?_ _) | (with_reducible refine Row4.drew ?_)))
  clear R1
  clear BW1
  clear hw2
  obtain ⟨Rc0, Rc1, Rc2, Rc3, Rc4⟩ := R2.parts
  obtain ⟨Rf0, Rf1, Rf2, Rf3, Rf4⟩ := R2.free
  obtain ⟨Nc0, Nc1, Nc2, Nc3⟩ := N2.four
  obtain ⟨Nf0, Nf1, Nf2, Nf3⟩ := N2.free4
  have lt_R := R2.lt
  have lt_N := N2.lt
  have neRN : ¬ w1.heap.size = w.heap.size := by omega
  have neNR : ¬ w.heap.size = w1.heap.size := by omega
  go_region
  all_goals go_wp2
  all_goals exact bodyPost_ret (v := .tuple #[.agg #[.bool (!eq4 x0 x1 x2 x3 0 0 0 0), .int .u64 x0, .int .u64 x1, .int .u64 x2, .int .u64 x3], .bool true]) (by simp [results, Tryd.results114, go_sem, Rc0, Rc1, Rc2, Rc3, Rc4]) rfl ⟨rfl, by repeat (first | (with_reducible exact BW2) | (with_reducible refine bal ?_ _) | (with_reducible refine Below.drew ?_) | (with_reducible refine bdn ?_ _) | ((with_reducible refine bsc ?_ ?_ _); rotate_left; (focus (simp only []; omega))))⟩
set_option maxHeartbeats 1000000 in
set_option maxRecDepth 100000 in
theorem rwh_none (g : Bool) (s : Value) (x0 x1 x2 x3 : Int) (w : World)
    (k1 : ∀ W, Below w.heap.size w W → Calls Tryd.prog 34 #[s] W fun e w' => e = .returned (.tuple #[.agg #[.int .u64 x0, .int .u64 x1, .int .u64 x2, .int .u64 x3], .bool false]) ∧ Below W.heap.size W w') :
    Calls Tryd.prog 114 #[.bool g, s] w fun e w' => e = .returned (.tuple #[.agg #[.bool false, .int .u64 0, .int .u64 0, .int .u64 0, .int .u64 0], .bool false]) ∧ Below w.heap.size w w' := by
  have K1 := Lib.hid k1; clear k1
  go_enter Tryd.func114, Tryd.ntmps114
  go_wp2_with fail
  refine (K1.out _ (by repeat (first | (with_reducible exact Below.refl _ _) | (with_reducible refine bal ?_ _) | (with_reducible refine Below.drew ?_) | (with_reducible refine bdn ?_ _)))).mono ?_
  rintro e w1 ⟨rfl, hb⟩
  have BW1 : Below w.heap.size w w1 := btr (by repeat (first | (with_reducible exact Below.refl _ _) | (with_reducible refine bal ?_ _) | (with_reducible refine Below.drew ?_) | (with_reducible refine bdn ?_ _))) hb
  have R1 : Row5 w1 w.heap.size (.bool false) (.int .u64 0) (.int .u64 0) (.int .u64 0) (.int .u64 0) := Row5.keep hb (by repeat (first | (with_reducible exact Row5.new _ _ _ _ _ _) | ((with_reducible refine Row5.new' _ ?_ _ _ _ _ _); (simp; done)) | (with_reducible refine Row5.alloc ?_ _) | (with_reducible refine Row5.drew ?_)))
  clear hb
  go_upto_region 3 with (fail)
  go_name_world w2 hw2
  have BW2 : Below w.heap.size w w2 := by rw [← hw2]; repeat (first | (with_reducible exact BW1) | (with_reducible refine bal ?_ _) | (with_reducible refine Below.drew ?_) | (with_reducible refine bdn ?_ _))
  have R2 : Row5 w2 w.heap.size (.bool false) (.int .u64 0) (.int .u64 0) (.int .u64 0) (.int .u64 0) := by rw [← hw2]; exact (by repeat (first | (with_reducible exact R1) | (with_reducible refine Row5.alloc ?_ _) | (with_reducible refine Row5.drew ?_)))
  have apN_R := R1.lt
  have apN_0 := (BW1).size
  have N2 : Row4 w2 w1.heap.size (.int .u64 x0) (.int .u64 x1) (.int .u64 x2) (.int .u64 x3) := by rw [← hw2]; exact (by repeat (first | (with_reducible exact Row4.new _ _ _ _ _) | ((with_reducible refine Row4.new' _ ?_ _ _ _ _); (simp; done)) | (with_reducible refine Row4.alloc ?_ _) | (with_reducible refine Row4.drew ?_)))
  clear R1
  clear BW1
  clear hw2
  obtain ⟨Rc0, Rc1, Rc2, Rc3, Rc4⟩ := R2.parts
  obtain ⟨Rf0, Rf1, Rf2, Rf3, Rf4⟩ := R2.free
  go_wp2
  all_goals exact bodyPost_ret (v := .tuple #[.agg #[.bool false, .int .u64 0, .int .u64 0, .int .u64 0, .int .u64 0], .bool false]) (by simp [results, Tryd.results114, go_sem, Rc0, Rc1, Rc2, Rc3, Rc4]) rfl ⟨rfl, by repeat (first | (with_reducible exact BW2) | (with_reducible refine bal ?_ _) | (with_reducible refine Below.drew ?_) | (with_reducible refine bdn ?_ _) | ((with_reducible refine bsc ?_ ?_ _); rotate_left; (focus (simp only []; omega))))⟩
theorem Iz_sign (g : Bool) (v : Nat) (hv : v < 2 ^ 256) : I5 (g && !eq4 (lb 0 v) (lb 1 v) (lb 2 v) (lb 3 v) 0 0 0 0) v = Iz (if g then -(v : Int) else v) := by
  cases g
  · rw [Bool.false_and, if_neg (by decide), Iz_nat]
  · rw [Bool.true_and, if_pos rfl, zq v hv]
    by_cases h : v = 0
    · subst h; rfl
    · rw [Iz_neg h, decide_eq_false h]; rfl
/-- What the reference's whole answers. -/
theorem rwh {s : Value} {v : Nat} (g : Bool) {w : World} (h : DR w s v) :
    Calls Tryd.prog 114 #[.bool g, s] w fun e w' => e = .returned (if v < 2 ^ 256 then .tuple #[Iz (if g then -(v : Int) else v), .bool true] else .tuple #[Z5, .bool false]) ∧ Below w.heap.size w w' := by
  have k := fun (W : World) (hW : Below w.heap.size w W) => rnat (h.keep hW)
  by_cases hv : v < 2 ^ 256
  · rw [if_pos hv] at k ⊢
    rw [← Iz_sign g v hv]
    cases g
    · exact rwh_false s _ _ _ _ w k
    · exact rwh_true s _ _ _ _ w k
  · rw [if_neg hv] at k ⊢
    exact rwh_none g s _ _ _ _ w k
end Go.Proofs.YtpnlmikjcpjjmaaDoor
