/-
  The reference's whole: the contract, for all numbers of at most 1000 digits of 32 bits.
-/
import Derived.Test.YtjlgiejggcbgbaaGreatDoorRefNat
import Derived.Test.YtjlgiejggcbgbaaGreatDoorWholeE
import Derived.BigRegion
import Derived.RegionTactic
namespace Go.Proofs.YtjlgiejggcbgbaaGreatDoor
open Go.RowKit Go.Shelf
attribute [local go_sem ↓] eql_nat neq_nat eql_int5 neq_int5

set_option maxHeartbeats 1000000 in
set_option maxRecDepth 100000 in
theorem rwh_false (s : Value) (x0 x1 x2 x3 : Int) (w : World)
    (k1 : ∀ W, Below w.heap.size w W → Calls Tryz.prog 77 #[s] W fun e w' => e = .returned (.tuple #[.agg #[.int .u64 x0, .int .u64 x1, .int .u64 x2, .int .u64 x3], .bool true]) ∧ Below W.heap.size W w') :
    Calls Tryz.prog 51 #[.bool false, s] w fun e w' => e = .returned (.tuple #[.agg #[.bool false, .int .u64 x0, .int .u64 x1, .int .u64 x2, .int .u64 x3], .bool true]) ∧ Below w.heap.size w w' := by
  have K1 := Lib.hid k1; clear k1
  go_enter Tryz.func51, Tryz.ntmps51
  go_wp2_with fail
  refine (K1.out _ (by repeat (first | (with_reducible exact Below.refl _ _) | (with_reducible refine bal ?_ _) | (with_reducible refine Below.drew ?_) | (with_reducible refine bdn ?_ _)))).mono ?_
  rintro e w1 ⟨rfl, hb⟩
  have BW1 : Below w.heap.size w w1 := btr (by repeat (first | (with_reducible exact Below.refl _ _) | (with_reducible refine bal ?_ _) | (with_reducible refine Below.drew ?_) | (with_reducible refine bdn ?_ _))) hb
  have R1 : Row5 w1 w.heap.size (.bool false) (.int .u64 0) (.int .u64 0) (.int .u64 0) (.int .u64 0) := Row5.keep hb (by repeat (first | (with_reducible exact Row5.new _ _ _ _ _ _) | ((with_reducible refine Row5.new' _ ?_ _ _ _ _ _); (simp; done)) | (with_reducible refine Row5.alloc ?_ _) | (with_reducible refine Row5.drew ?_)))
  clear hb
  go_upto_region 4 with (fail)
  go_name_world w2 hw2
  have BW2 : Below w.heap.size w w2 := by rw [← hw2]; repeat (first | (with_reducible exact BW1) | (with_reducible refine bal ?_ _) | (with_reducible refine Below.drew ?_) | (with_reducible refine bdn ?_ _))
  have R2 : Row5 w2 w.heap.size (.bool false) (.int .u64 0) (.int .u64 0) (.int .u64 0) (.int .u64 0) := by rw [← hw2]; exact (by repeat (first | (with_reducible exact R1) | (with_reducible refine Row5.alloc ?_ _) | (with_reducible refine Row5.drew ?_)))
  have apN_R := R1.lt
  have apN_0 := (BW1).size
  have N2 : Row4 w2 w1.heap.size (.int .u64 x0) (.int .u64 x1) (.int .u64 x2) (.int .u64 x3) := by rw [← hw2]; exact (by repeat (first | (with_reducible exact Row4.new _ _ _ _ _) | ((with_reducible refine Row4.new' _ ?_ _ _ _ _); (simp; done)) | (with_reducible refine Row4.alloc ?_ _) | (with_reducible refine Row4.drew ?_)))
  clear R1
  clear BW1
  clear hw2
  obtain ⟨Rc0, Rc1, Rc2, Rc3, Rc4⟩ := R2.parts
  obtain ⟨Rf0, Rf1, Rf2, Rf3, Rf4⟩ := R2.free
  obtain ⟨Nc0, Nc1, Nc2, Nc3⟩ := N2.four
  obtain ⟨Nf0, Nf1, Nf2, Nf3⟩ := N2.free4
  have lt_R := R2.lt
  have lt_N := N2.lt
  have neRN : ¬ w1.heap.size = w.heap.size := by omega
  have neNR : ¬ w.heap.size = w1.heap.size := by omega
  go_region
  all_goals go_wp2
  all_goals exact bodyPost_ret (v := .tuple #[.agg #[.bool false, .int .u64 x0, .int .u64 x1, .int .u64 x2, .int .u64 x3], .bool true]) (by simp [results, Tryz.results51, go_sem, Rc0, Rc1, Rc2, Rc3, Rc4]) rfl ⟨rfl, by repeat (first | (with_reducible exact BW2) | (with_reducible refine bal ?_ _) | (with_reducible refine Below.drew ?_) | (with_reducible refine bdn ?_ _) | ((with_reducible refine bsc ?_ ?_ _); rotate_left; (focus (simp only []; omega))))⟩
set_option maxHeartbeats 1000000 in
set_option maxRecDepth 100000 in
theorem rwh_true (s : Value) (x0 x1 x2 x3 : Int) (w : World)
    (k1 : ∀ W, Below w.heap.size w W → Calls Tryz.prog 77 #[s] W fun e w' => e = .returned (.tuple #[.agg #[.int .u64 x0, .int .u64 x1, .int .u64 x2, .int .u64 x3], .bool true]) ∧ Below W.heap.size W w') :
    Calls Tryz.prog 51 #[.bool true, s] w fun e w' => e = .returned (.tuple #[.agg #[.bool (!eq4 x0 x1 x2 x3 0 0 0 0), .int .u64 x0, .int .u64 x1, .int .u64 x2, .int .u64 x3], .bool true]) ∧ Below w.heap.size w w' := by
  have K1 := Lib.hid k1; clear k1
  go_enter Tryz.func51, Tryz.ntmps51
  go_wp2_with fail
  refine (K1.out _ (by repeat (first | (with_reducible exact Below.refl _ _) | (with_reducible refine bal ?_ _) | (with_reducible refine Below.drew ?_) | (with_reducible refine bdn ?_ _)))).mono ?_
  rintro e w1 ⟨rfl, hb⟩
  have BW1 : Below w.heap.size w w1 := btr (by repeat (first | (with_reducible exact Below.refl _ _) | (with_reducible refine bal ?_ _) | (with_reducible refine Below.drew ?_) | (with_reducible refine bdn ?_ _))) hb
  have R1 : Row5 w1 w.heap.size (.bool false) (.int .u64 0) (.int .u64 0) (.int .u64 0) (.int .u64 0) := Row5.keep hb (by repeat (first | (with_reducible exact Row5.new _ _ _ _ _ _) | ((with_reducible refine Row5.new' _ ?_ _ _ _ _ _); (simp; done)) | (with_reducible refine Row5.alloc ?_ _) | (with_reducible refine Row5.drew ?_)))
  clear hb
  go_upto_region 4 with (fail)
  go_name_world w2 hw2
  have BW2 : Below w.heap.size w w2 := by rw [← hw2]; repeat (first | (with_reducible exact BW1) | (with_reducible refine bal ?_ _) | (with_reducible refine Below.drew ?_) | (with_reducible refine bdn ?_ _))
  have R2 : Row5 w2 w.heap.size (.bool false) (.int .u64 0) (.int .u64 0) (.int .u64 0) (.int .u64 0) := by rw [← hw2]; exact (by repeat (first | (with_reducible exact R1) | (with_reducible refine Row5.alloc ?_ _) | (with_reducible refine Row5.drew ?_)))
  have apN_R := R1.lt
  have apN_0 := (BW1).size
  have N2 : Row4 w2 w1.heap.size (.int .u64 x0) (.int .u64 x1) (.int .u64 x2) (.int .u64 x3) := by rw [← hw2]; exact (by repeat (first | (with_reducible exact Row4.new _ _ _ _ _) | ((with_reducible refine Row4.new' _ ?_ _ _ _ _); (simp; done)) | (with_reducible refine Row4.alloc ?_ _) | (with_reducible refine Row4.drew ?_)))
  clear R1
  clear BW1
  clear hw2
  obtain ⟨Rc0, Rc1, Rc2, Rc3, Rc4⟩ := R2.parts
  obtain ⟨Rf0, Rf1, Rf2, Rf3, Rf4⟩ := R2.free
  obtain ⟨Nc0, Nc1, Nc2, Nc3⟩ := N2.four
  obtain ⟨Nf0, Nf1, Nf2, Nf3⟩ := N2.free4
  have lt_R := R2.lt
  have lt_N := N2.lt
  have neRN : ¬ w1.heap.size = w.heap.size := by omega
  have neNR : ¬ w.heap.size = w1.heap.size := by omega
  go_region
  all_goals go_wp2
  all_goals exact bodyPost_ret (v := .tuple #[.agg #[.bool (!eq4 x0 x1 x2 x3 0 0 0 0), .int .u64 x0, .int .u64 x1, .int .u64 x2, .int .u64 x3], .bool true]) (by simp [results, Tryz.results51, go_sem, Rc0, Rc1, Rc2, Rc3, Rc4]) rfl ⟨rfl, by repeat (first | (with_reducible exact BW2) | (with_reducible refine bal ?_ _) | (with_reducible refine Below.drew ?_) | (with_reducible refine bdn ?_ _) | ((with_reducible refine bsc ?_ ?_ _); rotate_left; (focus (simp only []; omega))))⟩
set_option maxHeartbeats 1000000 in
set_option maxRecDepth 100000 in
theorem rwh_none (g : Bool) (s : Value) (x0 x1 x2 x3 : Int) (w : World)
    (k1 : ∀ W, Below w.heap.size w W → Calls Tryz.prog 77 #[s] W fun e w' => e = .returned (.tuple #[.agg #[.int .u64 x0, .int .u64 x1, .int .u64 x2, .int .u64 x3], .bool false]) ∧ Below W.heap.size W w') :
    Calls Tryz.prog 51 #[.bool g, s] w fun e w' => e = .returned (.tuple #[.agg #[.bool false, .int .u64 0, .int .u64 0, .int .u64 0, .int .u64 0], .bool false]) ∧ Below w.heap.size w w' := by
  have K1 := Lib.hid k1; clear k1
  go_enter Tryz.func51, Tryz.ntmps51
  go_wp2_with fail
  refine (K1.out _ (by repeat (first | (with_reducible exact Below.refl _ _) | (with_reducible refine bal ?_ _) | (with_reducible refine Below.drew ?_) | (with_reducible refine bdn ?_ _)))).mono ?_
  rintro e w1 ⟨rfl, hb⟩
  have BW1 : Below w.heap.size w w1 := btr (by repeat (first | (with_reducible exact Below.refl _ _) | (with_reducible refine bal ?_ _) | (with_reducible refine Below.drew ?_) | (with_reducible refine bdn ?_ _))) hb
  have R1 : Row5 w1 w.heap.size (.bool false) (.int .u64 0) (.int .u64 0) (.int .u64 0) (.int .u64 0) := Row5.keep hb (by repeat (first | (with_reducible exact Row5.new _ _ _ _ _ _) | ((with_reducible refine Row5.new' _ ?_ _ _ _ _ _); (simp; done)) | (with_reducible refine Row5.alloc ?_ _) | (with_reducible refine Row5.drew ?_)))
  clear hb
  go_upto_region 3 with (fail)
  go_name_world w2 hw2
  have BW2 : Below w.heap.size w w2 := by rw [← hw2]; repeat (first | (with_reducible exact BW1) | (with_reducible refine bal ?_ _) | (with_reducible refine Below.drew ?_) | (with_reducible refine bdn ?_ _))
  have R2 : Row5 w2 w.heap.size (.bool false) (.int .u64 0) (.int .u64 0) (.int .u64 0) (.int .u64 0) := by rw [← hw2]; exact (by repeat (first | (with_reducible exact R1) | (with_reducible refine Row5.alloc ?_ _) | (with_reducible refine Row5.drew ?_)))
  have apN_R := R1.lt
  have apN_0 := (BW1).size
  have N2 : Row4 w2 w1.heap.size (.int .u64 x0) (.int .u64 x1) (.int .u64 x2) (.int .u64 x3) := by rw [← hw2]; exact (by repeat (first | (with_reducible exact Row4.new _ _ _ _ _) | ((with_reducible refine Row4.new' _ ?_ _ _ _ _); (simp; done)) | (with_reducible refine Row4.alloc ?_ _) | (with_reducible refine Row4.drew ?_)))
  clear R1
  clear BW1
  clear hw2
  obtain ⟨Rc0, Rc1, Rc2, Rc3, Rc4⟩ := R2.parts
  obtain ⟨Rf0, Rf1, Rf2, Rf3, Rf4⟩ := R2.free
  go_wp2
  all_goals exact bodyPost_ret (v := .tuple #[.agg #[.bool false, .int .u64 0, .int .u64 0, .int .u64 0, .int .u64 0], .bool false]) (by simp [results, Tryz.results51, go_sem, Rc0, Rc1, Rc2, Rc3, Rc4]) rfl ⟨rfl, by repeat (first | (with_reducible exact BW2) | (with_reducible refine bal ?_ _) | (with_reducible refine Below.drew ?_) | (with_reducible refine bdn ?_ _) | ((with_reducible refine bsc ?_ ?_ _); rotate_left; (focus (simp only []; omega))))⟩
theorem Iz_sign (g : Bool) (v : Nat) (hv : v < 2 ^ 256) : I5 (g && !eq4 (lb 0 v) (lb 1 v) (lb 2 v) (lb 3 v) 0 0 0 0) v = Iz (if g then -(v : Int) else v) := by
  cases g
  · rw [Bool.false_and, if_neg (by decide), Iz_nat]
  · rw [Bool.true_and, if_pos rfl, zq v hv]
    by_cases h : v = 0
    · subst h; rfl
    · rw [Iz_neg h, decide_eq_false h]; rfl
/-- What the reference's whole answers. -/
theorem rwh {s : Value} {v : Nat} (g : Bool) {w : World} (h : DR w s v) :
    Calls Tryz.prog 51 #[.bool g, s] w fun e w' => e = .returned (if v < 2 ^ 256 then .tuple #[Iz (if g then -(v : Int) else v), .bool true] else .tuple #[Z5, .bool false]) ∧ Below w.heap.size w w' := by
  have k := fun (W : World) (hW : Below w.heap.size w W) => rnat (h.keep hW)
  by_cases hv : v < 2 ^ 256
  · rw [if_pos hv] at k ⊢
    rw [← Iz_sign g v hv]
    cases g
    · exact rwh_false s _ _ _ _ w k
    · exact rwh_true s _ _ _ _ w k
  · rw [if_neg hv] at k ⊢
    exact rwh_none g s _ _ _ _ w k
end Go.Proofs.YtjlgiejggcbgbaaGreatDoor
