/-
  float.Whole: the contract, for every word of 64 bits.
-/
import Derived.Test.YtoibaeilbolffaaGreatDoorFltD
import Derived.Test.YtoibaeilbolffaaGreatDoorGE
import Derived.Test.YtoibaeilbolffaaGreatDoorNatShl
namespace Go.Proofs.YtoibaeilbolffaaGreatDoor
open Go.RowKit Go.Shelf
attribute [local go_sem ↓] eql_nat neq_nat eql_int5 neq_int5

set_option maxHeartbeats 1000000 in
set_option maxRecDepth 100000 in
theorem whole_no (b : Int)
    (k1 : ∀ W, Calls Tryz.prog 55 #[.int .u64 b] W fun e w' => e = .returned (.bool false) ∧ w' = W) (w : World) :
    Calls Tryz.prog 27 #[.int .u64 b] w fun e w' => e = .returned (.tuple #[.agg #[.bool false, .int .u64 0, .int .u64 0, .int .u64 0, .int .u64 0], .bool false]) ∧ Below w.heap.size w w' := by
  have K1 := Lib.hid k1; clear k1
  go_enter Tryz.func27, Tryz.ntmps27
  go_wp2_with fail
  refine (K1.out _).mono ?_
  rintro e w1 ⟨rfl, hw⟩
  rw [hw]; clear hw w1
  go_wp2
  exact bodyPost_ret (v := .tuple #[.agg #[.bool false, .int .u64 0, .int .u64 0, .int .u64 0, .int .u64 0], .bool false]) (by simp [results, Tryz.results27, go_sem]) rfl ⟨rfl, by repeat (first | (with_reducible exact Below.refl _ _) | (with_reducible refine bal ?_ _) | (with_reducible refine Below.drew ?_) | (with_reducible refine bdn ?_ _))⟩

set_option maxHeartbeats 1000000 in
set_option maxRecDepth 100000 in
theorem whole_false (b d p x0 x1 x2 x3 : Int) (q : Bool)
    (k1 : ∀ W, Calls Tryz.prog 55 #[.int .u64 b] W fun e w' => e = .returned (.bool true) ∧ w' = W)
    (k2 : ∀ W, Tb W → Calls Tryz.prog 56 #[.int .u64 b] W fun e w' => e = .returned (.tuple #[.int .u64 d, .int .i64 p]) ∧ w' = W)
    (k3 : ∀ W, Calls Tryz.prog 57 #[.agg #[.int .u64 d, .int .u64 0, .int .u64 0, .int .u64 0], .int .i64 p] W fun e w' => e = .returned (.tuple #[.agg #[.int .u64 x0, .int .u64 x1, .int .u64 x2, .int .u64 x3], .bool q]) ∧ Below W.heap.size W w')
    (k4 : ∀ W, Calls Tryz.prog 59 #[.int .u64 b] W fun e w' => e = .returned (.bool false) ∧ w' = W) (w : World) (hT : Tb w) :
    Calls Tryz.prog 27 #[.int .u64 b] w fun e w' => e = .returned (.tuple #[.agg #[.bool false, .int .u64 x0, .int .u64 x1, .int .u64 x2, .int .u64 x3], .bool q]) ∧ Below w.heap.size w w' := by
  have K1 := Lib.hid k1; clear k1
  have K2 := Lib.hid k2; clear k2
  have K3 := Lib.hid k3; clear k3
  have K4 := Lib.hid k4; clear k4
  have HT := Lib.hid hT; clear hT
  go_enter Tryz.func27, Tryz.ntmps27
  go_wp2_with fail
  refine (K1.out _).mono ?_
  rintro e w1 ⟨rfl, hw⟩
  rw [hw]; clear hw w1
  go_wp2_with fail
  refine (K2.out _ (tb_on HT.out (by repeat (first | (with_reducible exact Below.refl _ _) | (with_reducible refine bal ?_ _) | (with_reducible refine Below.drew ?_) | (with_reducible refine bdn ?_ _))))).mono ?_
  rintro e w1 ⟨rfl, hw⟩
  rw [hw]; clear hw w1
  go_wp2_with fail
  (with_reducible refine (of_any _ _).mono ?_)
  rintro e w1 ⟨rfl, hb⟩
  have BW1 : Below w.heap.size w w1 := btr (by repeat (first | (with_reducible exact Below.refl _ _) | (with_reducible refine bal ?_ _) | (with_reducible refine Below.drew ?_) | (with_reducible refine bdn ?_ _))) hb
  have R1 : Row5 w1 w.heap.size (.bool false) (.int .u64 0) (.int .u64 0) (.int .u64 0) (.int .u64 0) := Row5.keep hb (by repeat (first | (with_reducible exact Row5.new _ _ _ _ _ _) | ((with_reducible refine Row5.new' _ ?_ _ _ _ _ _); (simp; done)) | (with_reducible refine Row5.alloc ?_ _) | (with_reducible refine Row5.drew ?_)))
  clear hb
  go_wp2_with fail
  (with_reducible refine (K3.out _).mono ?_)
  rintro e w2 ⟨rfl, hb⟩
  have BW2 : Below w.heap.size w w2 := btr (by repeat (first | (with_reducible exact BW1) | (with_reducible refine bal ?_ _) | (with_reducible refine Below.drew ?_) | (with_reducible refine bdn ?_ _))) hb
  have R2 : Row5 w2 w.heap.size (.bool false) (.int .u64 0) (.int .u64 0) (.int .u64 0) (.int .u64 0) := Row5.keep hb (by repeat (first | (with_reducible exact R1) | (with_reducible refine Row5.alloc ?_ _) | (with_reducible refine Row5.drew ?_)))
  clear R1
  clear BW1
  clear hb
  go_upto_region 5 with (fail)
  go_name_world w3 hw3
  have BW3 : Below w.heap.size w w3 := by rw [← hw3]; repeat (first | (with_reducible exact BW2) | (with_reducible refine bal ?_ _) | (with_reducible refine Below.drew ?_) | (with_reducible refine bdn ?_ _))
  have R3 : Row5 w3 w.heap.size (.bool false) (.int .u64 0) (.int .u64 0) (.int .u64 0) (.int .u64 0) := by rw [← hw3]; exact (by repeat (first | (with_reducible exact R2) | (with_reducible refine Row5.alloc ?_ _) | (with_reducible refine Row5.drew ?_)))
  have apN_R := R2.lt
  have apN_0 := (BW2).size
  have N3 : Row4 w3 w2.heap.size (.int .u64 x0) (.int .u64 x1) (.int .u64 x2) (.int .u64 x3) := by rw [← hw3]; exact (by repeat (first | (with_reducible exact Row4.new _ _ _ _ _) | ((with_reducible refine Row4.new' _ ?_ _ _ _ _); (simp; done)) | (with_reducible refine Row4.alloc ?_ _) | (with_reducible refine Row4.drew ?_)))
  clear R2
  clear BW2
  clear hw3
  obtain ⟨Rc0, Rc1, Rc2, Rc3, Rc4⟩ := R3.parts
  obtain ⟨Rf0, Rf1, Rf2, Rf3, Rf4⟩ := R3.free
  obtain ⟨Nc0, Nc1, Nc2, Nc3⟩ := N3.four
  obtain ⟨Nf0, Nf1, Nf2, Nf3⟩ := N3.free4
  have lt_R := R3.lt
  have lt_N := N3.lt
  go_region_with (first | (go_at_call 59; refine (K4.out _).mono ?_; rintro e w9 ⟨rfl, hw⟩; rw [hw]; clear hw w9))
  all_goals
    go_wp2
    exact bodyPost_ret (v := .tuple #[.agg #[.bool false, .int .u64 x0, .int .u64 x1, .int .u64 x2, .int .u64 x3], .bool q]) (by simp [results, Tryz.results27, go_sem, Rc0, Rc1, Rc2, Rc3, Rc4]) rfl ⟨rfl, by repeat (first | (with_reducible exact BW3) | (with_reducible refine bal ?_ _) | (with_reducible refine Below.drew ?_) | (with_reducible refine bdn ?_ _) | ((with_reducible refine bsc ?_ ?_ _); rotate_left; (focus (simp only []; omega))))⟩

set_option maxHeartbeats 1000000 in
set_option maxRecDepth 100000 in
theorem whole_true (b d p x0 x1 x2 x3 : Int) (q : Bool)
    (k1 : ∀ W, Calls Tryz.prog 55 #[.int .u64 b] W fun e w' => e = .returned (.bool true) ∧ w' = W)
    (k2 : ∀ W, Tb W → Calls Tryz.prog 56 #[.int .u64 b] W fun e w' => e = .returned (.tuple #[.int .u64 d, .int .i64 p]) ∧ w' = W)
    (k3 : ∀ W, Calls Tryz.prog 57 #[.agg #[.int .u64 d, .int .u64 0, .int .u64 0, .int .u64 0], .int .i64 p] W fun e w' => e = .returned (.tuple #[.agg #[.int .u64 x0, .int .u64 x1, .int .u64 x2, .int .u64 x3], .bool q]) ∧ Below W.heap.size W w')
    (k4 : ∀ W, Calls Tryz.prog 59 #[.int .u64 b] W fun e w' => e = .returned (.bool true) ∧ w' = W) (w : World) (hT : Tb w) :
    Calls Tryz.prog 27 #[.int .u64 b] w fun e w' => e = .returned (.tuple #[.agg #[.bool (!eq4 x0 x1 x2 x3 0 0 0 0), .int .u64 x0, .int .u64 x1, .int .u64 x2, .int .u64 x3], .bool q]) ∧ Below w.heap.size w w' := by
  have K1 := Lib.hid k1; clear k1
  have K2 := Lib.hid k2; clear k2
  have K3 := Lib.hid k3; clear k3
  have K4 := Lib.hid k4; clear k4
  have HT := Lib.hid hT; clear hT
  go_enter Tryz.func27, Tryz.ntmps27
  go_wp2_with fail
  refine (K1.out _).mono ?_
  rintro e w1 ⟨rfl, hw⟩
  rw [hw]; clear hw w1
  go_wp2_with fail
  refine (K2.out _ (tb_on HT.out (by repeat (first | (with_reducible exact Below.refl _ _) | (with_reducible refine bal ?_ _) | (with_reducible refine Below.drew ?_) | (with_reducible refine bdn ?_ _))))).mono ?_
  rintro e w1 ⟨rfl, hw⟩
  rw [hw]; clear hw w1
  go_wp2_with fail
  (with_reducible refine (of_any _ _).mono ?_)
  rintro e w1 ⟨rfl, hb⟩
  have BW1 : Below w.heap.size w w1 := btr (by repeat (first | (with_reducible exact Below.refl _ _) | (with_reducible refine bal ?_ _) | (with_reducible refine Below.drew ?_) | (with_reducible refine bdn ?_ _))) hb
  have R1 : Row5 w1 w.heap.size (.bool false) (.int .u64 0) (.int .u64 0) (.int .u64 0) (.int .u64 0) := Row5.keep hb (by repeat (first | (with_reducible exact Row5.new _ _ _ _ _ _) | ((with_reducible refine Row5.new' _ ?_ _ _ _ _ _); (simp; done)) | (with_reducible refine Row5.alloc ?_ _) | (with_reducible refine Row5.drew ?_)))
  clear hb
  go_wp2_with fail
  (with_reducible refine (K3.out _).mono ?_)
  rintro e w2 ⟨rfl, hb⟩
  have BW2 : Below w.heap.size w w2 := btr (by repeat (first | (with_reducible exact BW1) | (with_reducible refine bal ?_ _) | (with_reducible refine Below.drew ?_) | (with_reducible refine bdn ?_ _))) hb
  have R2 : Row5 w2 w.heap.size (.bool false) (.int .u64 0) (.int .u64 0) (.int .u64 0) (.int .u64 0) := Row5.keep hb (by repeat (first | (with_reducible exact R1) | (with_reducible refine Row5.alloc ?_ _) | (with_reducible refine Row5.drew ?_)))
  clear R1
  clear BW1
  clear hb
  go_upto_region 5 with (fail)
  go_name_world w3 hw3
  have BW3 : Below w.heap.size w w3 := by rw [← hw3]; repeat (first | (with_reducible exact BW2) | (with_reducible refine bal ?_ _) | (with_reducible refine Below.drew ?_) | (with_reducible refine bdn ?_ _))
  have R3 : Row5 w3 w.heap.size (.bool false) (.int .u64 0) (.int .u64 0) (.int .u64 0) (.int .u64 0) := by rw [← hw3]; exact (by repeat (first | (with_reducible exact R2) | (with_reducible refine Row5.alloc ?_ _) | (with_reducible refine Row5.drew ?_)))
  have apN_R := R2.lt
  have apN_0 := (BW2).size
  have N3 : Row4 w3 w2.heap.size (.int .u64 x0) (.int .u64 x1) (.int .u64 x2) (.int .u64 x3) := by rw [← hw3]; exact (by repeat (first | (with_reducible exact Row4.new _ _ _ _ _) | ((with_reducible refine Row4.new' _ ?_ _ _ _ _); (simp; done)) | (with_reducible refine Row4.alloc ?_ _) | (with_reducible refine Row4.drew ?_)))
  clear R2
  clear BW2
  clear hw3
  obtain ⟨Rc0, Rc1, Rc2, Rc3, Rc4⟩ := R3.parts
  obtain ⟨Rf0, Rf1, Rf2, Rf3, Rf4⟩ := R3.free
  obtain ⟨Nc0, Nc1, Nc2, Nc3⟩ := N3.four
  obtain ⟨Nf0, Nf1, Nf2, Nf3⟩ := N3.free4
  have lt_R := R3.lt
  have lt_N := N3.lt
  go_region_held3 (fun w' => w'.cell? ⟨w2.heap.size, 0, none⟩ = some (.int .u64 x0) ∧ w'.cell? ⟨w2.heap.size, 1, none⟩ = some (.int .u64 x1) ∧ w'.cell? ⟨w2.heap.size, 2, none⟩ = some (.int .u64 x2) ∧ w'.cell? ⟨w2.heap.size, 3, none⟩ = some (.int .u64 x3))
    ((refine Row4.four ?_; (repeat (first | (with_reducible assumption) | (with_reducible refine Row4.alloc ?_ _) | (with_reducible refine Row4.drew ?_) | ((with_reducible refine Row4.set ?_ ?_ _); rotate_left; (focus (omega))))); done))
    (first | (go_at_call 59; refine (K4.out _).mono ?_; rintro e w9 ⟨rfl, rfl⟩) | (go_at_call 58; refine (of_one _ _).mono ?_; rintro e w9 ⟨rfl, o1, rfl⟩))
  all_goals
    go_wp2
    have RE := Row5.alloc (Row5.set5 R3 (.bool (!eq4 x0 x1 x2 x3 0 0 0 0)) (.int .u64 x0) (.int .u64 x1) (.int .u64 x2) (.int .u64 x3)) o1
    obtain ⟨e0, e1, e2, e3, e4⟩ := RE.parts
    exact bodyPost_ret (v := .tuple #[.agg #[.bool (!eq4 x0 x1 x2 x3 0 0 0 0), .int .u64 x0, .int .u64 x1, .int .u64 x2, .int .u64 x3], .bool q]) (by simp [results, Tryz.results27, go_sem, e0, e1, e2, e3, e4]) rfl ⟨rfl, by repeat (first | (with_reducible exact BW3) | (with_reducible refine bal ?_ _) | (with_reducible refine Below.drew ?_) | (with_reducible refine bdn ?_ _) | ((with_reducible refine bsc ?_ ?_ _); rotate_left; (focus (simp only []; omega))))⟩

/-- What Whole answers. -/
def WEnd (b : Nat) : Value := match whl b with
  | some n => .tuple #[Iz (if sg b = 1 then -(n : Int) else n), .bool true]
  | none => .tuple #[Z5, .bool false]
theorem od_lt (b : Nat) : od b < 18446744073709551616 := by
  have := dg_lt b
  unfold od
  split
  · omega
  · exact Nat.lt_of_le_of_lt (Nat.div_le_self _ _) this
theorem whole_of (b : Nat) (hb : b < 18446744073709551616) (h : rg b < INF) (n : Nat) (q : Bool) (hn : n < 2 ^ 256)
    (hs : ∀ W, Calls Tryz.prog 57 #[N4 (od b), .int .i64 (pw b)] W fun e w' => e = .returned (.tuple #[N4 n, .bool q]) ∧ Below W.heap.size W w') (w : World) (hT : Tb w) :
    Calls Tryz.prog 27 #[.int .u64 b] w fun e w' => e = .returned (.tuple #[Iz (if sg b = 1 then -(n : Int) else n), .bool q]) ∧ Below w.heap.size w w' := by
  rw [N4_small _ (od_lt b)] at hs
  have h2 : sg b = 0 ∨ sg b = 1 := by unfold sg; omega
  rcases h2 with h2 | h2
  · rw [if_neg (by omega), Iz_nat]
    exact whole_false b _ _ _ _ _ _ q (fun W => isfin_yes b hb h W) (fun W hW => parts_any b hb W hW) hs (fun W => hsign_no b h2 W) w hT
  · rw [if_pos h2]
    refine (whole_true b _ _ _ _ _ _ q (fun W => isfin_yes b hb h W) (fun W hW => parts_any b hb W hW) hs (fun W => hsign_yes b h2 W) w hT).mono ?_
    rintro e w' ⟨rfl, hbw⟩
    refine ⟨?_, hbw⟩
    rw [zq n hn]
    by_cases h0 : n = 0
    · subst h0; rfl
    · rw [Iz_neg h0, decide_eq_false h0]; rfl
theorem whole_any (b : Nat) (hb : b < 18446744073709551616) (w : World) (hT : Tb w) :
    Calls Tryz.prog 27 #[.int .u64 b] w fun e w' => e = .returned (WEnd b) ∧ Below w.heap.size w w' := by
  have hp := pw_bound b
  have ho := od_lt b
  have N0 : N4 0 = .agg #[.int .u64 0, .int .u64 0, .int .u64 0, .int .u64 0] := N4_small _ (by decide)
  by_cases h : rg b < INF
  · have hno : ∀ (hs : ∀ W, Calls Tryz.prog 57 #[N4 (od b), .int .i64 (pw b)] W fun e w' => e = .returned (.tuple #[.agg #[.int .u64 0, .int .u64 0, .int .u64 0, .int .u64 0], .bool false]) ∧ Below W.heap.size W w') (_ : whl b = none),
        Calls Tryz.prog 27 #[.int .u64 b] w fun e w' => e = .returned (WEnd b) ∧ Below w.heap.size w w' := fun hs hw => by
      refine (whole_of b hb h 0 false (by decide) (fun W => by rw [N0]; exact hs W) w hT).mono ?_
      rintro e w' ⟨rfl, hbw⟩
      refine ⟨?_, hbw⟩
      unfold WEnd
      rw [hw]
      have e0 : (if sg b = 1 then -((0 : Nat) : Int) else ((0 : Nat) : Int)) = 0 := by split <;> rfl
      rw [e0, ← Iz_zero]
    by_cases h0 : 0 ≤ pw b
    · obtain ⟨k, hk⟩ := Int.eq_ofNat_of_zero_le h0
      by_cases hf : od b * 2 ^ k < 2 ^ 256
      · have hw : whl b = some (od b * 2 ^ k) := by
          unfold whl
          rw [hk, Int.toNat_natCast, if_pos ⟨h, by omega, hf⟩]
        unfold WEnd
        rw [hw]
        exact whole_of b hb h _ true hf (fun W => by rw [hk]; exact shl_ok _ k (by omega) hf W) w hT
      · refine hno (fun W => by rw [hk]; exact shl_no _ k (by omega) hf W) ?_
        unfold whl
        rw [hk, Int.toNat_natCast, if_neg (fun hh => hf hh.2.2)]
    · refine hno (fun W => ?_) ?_
      · exact shl_neg _ _ (by omega) W
      · unfold whl
        rw [if_neg (fun hh => h0 hh.2.1)]
  · have hw : whl b = none := by unfold whl; rw [if_neg (fun hh => h hh.1)]
    unfold WEnd
    rw [hw]
    exact whole_no b (fun W => isfin_no b hb h W) w
end Go.Proofs.YtoibaeilbolffaaGreatDoor
