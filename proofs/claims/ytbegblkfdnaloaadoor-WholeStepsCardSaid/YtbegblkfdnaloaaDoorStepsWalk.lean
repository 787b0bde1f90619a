/-
  entrepotlaw2.WholeSteps: the walk: it answers true for all whole numbers. The tables math/bits.deBruijn64tab, internal/strconv.uint64pow10 read as their initialisers lay them.
-/
import Derived.Test.YtbegblkfdnaloaaDoorWholeJ
namespace Go.Proofs.YtbegblkfdnaloaaDoor
open Go.RowKit Go.Shelf
attribute [local go_sem ↓] eql_nat neq_nat eql_int5 neq_int5

set_option maxHeartbeats 4000000 in
set_option maxRecDepth 100000 in
theorem steps_no (ga : Bool) (a0 a1 a2 a3 : Int)
    (m1 : ∀ W, Calls Tryd.prog 46 #[.agg #[.bool ga, .int .u64 a0, .int .u64 a1, .int .u64 a2, .int .u64 a3]] W fun e w' => e = .returned (.bool false) ∧ Below W.heap.size W w')
    (k1 : ∀ W, Calls Tryd.prog 64 #[.agg #[.bool ga, .int .u64 a0, .int .u64 a1, .int .u64 a2, .int .u64 a3]] W fun e w' => e = .returned (.string ⟨#[]⟩) ∧ Below W.heap.size W w') (w : World) (hT : Tabs w) :
    Calls Tryd.prog 13 #[.agg #[.bool ga, .int .u64 a0, .int .u64 a1, .int .u64 a2, .int .u64 a3]] w fun e w' => e = .returned (.bool true) ∧ Below w.heap.size w w' := by
  have M1 := Lib.hid m1; clear m1
  have K1 := Lib.hid k1; clear k1
  have HT := Lib.hid hT; clear hT
  go_enter Tryd.func13, Tryd.ntmps13
  go_wp2_with fail
  (with_reducible refine (M1.out _).mono ?_)
  rintro e w1 ⟨rfl, hb⟩
  have BW1 : Below w.heap.size w w1 := btr (by repeat (first | (with_reducible exact Below.refl _ _) | (with_reducible refine bal ?_ _) | (with_reducible refine Below.drew ?_) | (with_reducible refine bdn ?_ _))) hb
  have A1 : Row5 w1 w.heap.size (.bool ga) (.int .u64 a0) (.int .u64 a1) (.int .u64 a2) (.int .u64 a3) := Row5.keep hb (by repeat (first | (with_reducible exact Row5.new _ _ _ _ _ _) | ((with_reducible refine Row5.new' _ ?_ _ _ _ _ _); (simp; done)) | (with_reducible refine Row5.alloc ?_ _) | (with_reducible refine Row5.drew ?_)))
  clear hb
  go_wp2_with fail
  refine (told2_true _ (tabs_on HT.out (by repeat (first | (with_reducible exact BW1) | (with_reducible refine bal ?_ _) | (with_reducible refine Below.drew ?_) | (with_reducible refine bdn ?_ _))))).mono ?_
  rintro e w2 ⟨rfl, hb⟩
  have BW2 : Below w.heap.size w w2 := btr (by repeat (first | (with_reducible exact BW1) | (with_reducible refine bal ?_ _) | (with_reducible refine Below.drew ?_) | (with_reducible refine bdn ?_ _))) hb
  have A2 : Row5 w2 w.heap.size (.bool ga) (.int .u64 a0) (.int .u64 a1) (.int .u64 a2) (.int .u64 a3) := Row5.keep hb (by repeat (first | (with_reducible exact A1) | (with_reducible refine Row5.alloc ?_ _) | (with_reducible refine Row5.drew ?_)))
  clear A1
  clear BW1
  clear hb
  obtain ⟨Ac0, Ac1, Ac2, Ac3, Ac4⟩ := A2.parts
  obtain ⟨Af0, Af1, Af2, Af3, Af4⟩ := A2.free
  go_wp2_with fail
  (with_reducible refine (K1.out _).mono ?_)
  rintro e w3 ⟨rfl, hb⟩
  have BW3 : Below w.heap.size w w3 := btr (by repeat (first | (with_reducible exact BW2) | (with_reducible refine bal ?_ _) | (with_reducible refine Below.drew ?_) | (with_reducible refine bdn ?_ _))) hb
  have A3 : Row5 w3 w.heap.size (.bool ga) (.int .u64 a0) (.int .u64 a1) (.int .u64 a2) (.int .u64 a3) := Row5.keep hb (by repeat (first | (with_reducible exact A2) | (with_reducible refine Row5.alloc ?_ _) | (with_reducible refine Row5.drew ?_)))
  clear A2
  clear BW2
  clear hb
  go_wp2
  go_ret
  exact ⟨rfl, BW3⟩

set_option maxHeartbeats 4000000 in
set_option maxRecDepth 100000 in
theorem steps_tt (ga gn gm : Bool) (a0 a1 a2 a3 n0 n1 n2 n3 m0 mm1 m2 m3 : Int) (s : ByteArray) (hs : (s.size : Int) ≤ 79) (hq : eq5 ga a0 a1 a2 a3 ga a0 a1 a2 a3 = true)
    (m1 : ∀ W, Calls Tryd.prog 46 #[.agg #[.bool ga, .int .u64 a0, .int .u64 a1, .int .u64 a2, .int .u64 a3]] W fun e w' => e = .returned (.bool true) ∧ Below W.heap.size W w')
    (k1 : ∀ W, Calls Tryd.prog 56 #[.agg #[.bool ga, .int .u64 a0, .int .u64 a1, .int .u64 a2, .int .u64 a3]] W fun e w' => e = .returned (.tuple #[.agg #[.bool gn, .int .u64 n0, .int .u64 n1, .int .u64 n2, .int .u64 n3], .bool true]) ∧ Below W.heap.size W w')
    (k6 : ∀ W, Calls Tryd.prog 58 #[.agg #[.bool ga, .int .u64 a0, .int .u64 a1, .int .u64 a2, .int .u64 a3]] W fun e w' => e = .returned (.tuple #[.agg #[.bool gm, .int .u64 m0, .int .u64 mm1, .int .u64 m2, .int .u64 m3], .bool true]) ∧ Below W.heap.size W w')
    (k11 : ∀ W, Tab W → Calls Tryd.prog 64 #[.agg #[.bool ga, .int .u64 a0, .int .u64 a1, .int .u64 a2, .int .u64 a3]] W fun e w' => e = .returned (.string s) ∧ Below W.heap.size W w')
    (k2 : ∀ W, Calls Tryd.prog 58 #[.agg #[.bool gn, .int .u64 n0, .int .u64 n1, .int .u64 n2, .int .u64 n3]] W fun e w' => e = .returned (.tuple #[.agg #[.bool ga, .int .u64 a0, .int .u64 a1, .int .u64 a2, .int .u64 a3], .bool true]) ∧ Below W.heap.size W w')
    (k3 : ∀ W, Calls Tryd.prog 61 #[.agg #[.bool gn, .int .u64 n0, .int .u64 n1, .int .u64 n2, .int .u64 n3], .agg #[.bool ga, .int .u64 a0, .int .u64 a1, .int .u64 a2, .int .u64 a3]] W fun e w' => e = .returned (.int .i64 1) ∧ Below W.heap.size W w')
    (k4 : ∀ W, Calls Tryd.prog 61 #[.agg #[.bool ga, .int .u64 a0, .int .u64 a1, .int .u64 a2, .int .u64 a3], .agg #[.bool gn, .int .u64 n0, .int .u64 n1, .int .u64 n2, .int .u64 n3]] W fun e w' => e = .returned (.int .i64 (-1)) ∧ Below W.heap.size W w')
    (k5 : ∀ W, Calls Tryd.prog 46 #[.agg #[.bool gn, .int .u64 n0, .int .u64 n1, .int .u64 n2, .int .u64 n3]] W fun e w' => e = .returned (.bool true) ∧ Below W.heap.size W w')
    (k7 : ∀ W, Calls Tryd.prog 56 #[.agg #[.bool gm, .int .u64 m0, .int .u64 mm1, .int .u64 m2, .int .u64 m3]] W fun e w' => e = .returned (.tuple #[.agg #[.bool ga, .int .u64 a0, .int .u64 a1, .int .u64 a2, .int .u64 a3], .bool true]) ∧ Below W.heap.size W w')
    (k8 : ∀ W, Calls Tryd.prog 61 #[.agg #[.bool gm, .int .u64 m0, .int .u64 mm1, .int .u64 m2, .int .u64 m3], .agg #[.bool ga, .int .u64 a0, .int .u64 a1, .int .u64 a2, .int .u64 a3]] W fun e w' => e = .returned (.int .i64 (-1)) ∧ Below W.heap.size W w')
    (k9 : ∀ W, Calls Tryd.prog 46 #[.agg #[.bool gm, .int .u64 m0, .int .u64 mm1, .int .u64 m2, .int .u64 m3]] W fun e w' => e = .returned (.bool true) ∧ Below W.heap.size W w') (w : World) (hT : Tabs w) :
    Calls Tryd.prog 13 #[.agg #[.bool ga, .int .u64 a0, .int .u64 a1, .int .u64 a2, .int .u64 a3]] w fun e w' => e = .returned (.bool true) ∧ Below w.heap.size w w' := by
  have HQ := Lib.hid hq; clear hq
  have M1 := Lib.hid m1; clear m1
  have K1 := Lib.hid k1; clear k1
  have K6 := Lib.hid k6; clear k6
  have K11 := Lib.hid k11; clear k11
  have K2 := Lib.hid k2; clear k2
  have K3 := Lib.hid k3; clear k3
  have K4 := Lib.hid k4; clear k4
  have K5 := Lib.hid k5; clear k5
  have K7 := Lib.hid k7; clear k7
  have K8 := Lib.hid k8; clear k8
  have K9 := Lib.hid k9; clear k9
  have HT := Lib.hid hT; clear hT
  go_enter Tryd.func13, Tryd.ntmps13
  go_wp2_with fail
  (with_reducible refine (M1.out _).mono ?_)
  rintro e w1 ⟨rfl, hb⟩
  have BW1 : Below w.heap.size w w1 := btr (by repeat (first | (with_reducible exact Below.refl _ _) | (with_reducible refine bal ?_ _) | (with_reducible refine Below.drew ?_) | (with_reducible refine bdn ?_ _))) hb
  have A1 : Row5 w1 w.heap.size (.bool ga) (.int .u64 a0) (.int .u64 a1) (.int .u64 a2) (.int .u64 a3) := Row5.keep hb (by repeat (first | (with_reducible exact Row5.new _ _ _ _ _ _) | ((with_reducible refine Row5.new' _ ?_ _ _ _ _ _); (simp; done)) | (with_reducible refine Row5.alloc ?_ _) | (with_reducible refine Row5.drew ?_)))
  clear hb
  obtain ⟨Ac0, Ac1, Ac2, Ac3, Ac4⟩ := A1.parts
  obtain ⟨Af0, Af1, Af2, Af3, Af4⟩ := A1.free
  go_wp2_with fail
  (with_reducible refine (K1.out _).mono ?_)
  rintro e w2 ⟨rfl, hb⟩
  have BW2 : Below w.heap.size w w2 := btr (by repeat (first | (with_reducible exact BW1) | (with_reducible refine bal ?_ _) | (with_reducible refine Below.drew ?_) | (with_reducible refine bdn ?_ _))) hb
  have A2 : Row5 w2 w.heap.size (.bool ga) (.int .u64 a0) (.int .u64 a1) (.int .u64 a2) (.int .u64 a3) := Row5.keep hb (by repeat (first | (with_reducible exact A1) | (with_reducible refine Row5.alloc ?_ _) | (with_reducible refine Row5.drew ?_)))
  clear A1
  clear BW1
  clear hb
  go_upto_region 5 with (fail)
  go_name_world w3 hw3
  have BW3 : Below w.heap.size w w3 := by rw [← hw3]; repeat (first | (with_reducible exact BW2) | (with_reducible refine bal ?_ _) | (with_reducible refine Below.drew ?_) | (with_reducible refine bdn ?_ _))
  have A3 : Row5 w3 w.heap.size (.bool ga) (.int .u64 a0) (.int .u64 a1) (.int .u64 a2) (.int .u64 a3) := by rw [← hw3]; exact (by repeat (first | (with_reducible exact A2) | (with_reducible refine Row5.alloc ?_ _) | (with_reducible refine Row5.drew ?_)))
  have apN_A := A2.lt
  have apN_0 := (BW2).size
  have N3 : Row5 w3 w2.heap.size (.bool gn) (.int .u64 n0) (.int .u64 n1) (.int .u64 n2) (.int .u64 n3) := by rw [← hw3]; exact (by repeat (first | (with_reducible exact Row5.new _ _ _ _ _ _) | ((with_reducible refine Row5.new' _ ?_ _ _ _ _ _); (simp; done)) | (with_reducible refine Row5.alloc ?_ _) | (with_reducible refine Row5.drew ?_)))
  clear A2
  clear BW2
  clear hw3
  obtain ⟨Nc0, Nc1, Nc2, Nc3, Nc4⟩ := N3.parts
  obtain ⟨Nf0, Nf1, Nf2, Nf3, Nf4⟩ := N3.free
  go_wp2_with fail
  (with_reducible refine (K2.out _).mono ?_)
  rintro e w4 ⟨rfl, hb⟩
  have BW4 : Below w.heap.size w w4 := btr (by repeat (first | (with_reducible exact BW3) | (with_reducible refine bal ?_ _) | (with_reducible refine Below.drew ?_) | (with_reducible refine bdn ?_ _))) hb
  have A4 : Row5 w4 w.heap.size (.bool ga) (.int .u64 a0) (.int .u64 a1) (.int .u64 a2) (.int .u64 a3) := Row5.keep hb (by repeat (first | (with_reducible exact A3) | (with_reducible refine Row5.alloc ?_ _) | (with_reducible refine Row5.drew ?_)))
  have N4 : Row5 w4 w2.heap.size (.bool gn) (.int .u64 n0) (.int .u64 n1) (.int .u64 n2) (.int .u64 n3) := Row5.keep hb (by repeat (first | (with_reducible exact N3) | (with_reducible refine Row5.alloc ?_ _) | (with_reducible refine Row5.drew ?_)))
  clear A3 N3
  clear BW3
  clear hb
  go_upto_region 6 with (fail)
  go_name_world w5 hw5
  have BW5 : Below w.heap.size w w5 := by rw [← hw5]; repeat (first | (with_reducible exact BW4) | (with_reducible refine bal ?_ _) | (with_reducible refine Below.drew ?_) | (with_reducible refine bdn ?_ _))
  have A5 : Row5 w5 w.heap.size (.bool ga) (.int .u64 a0) (.int .u64 a1) (.int .u64 a2) (.int .u64 a3) := by rw [← hw5]; exact (by repeat (first | (with_reducible exact A4) | (with_reducible refine Row5.alloc ?_ _) | (with_reducible refine Row5.drew ?_)))
  have N5 : Row5 w5 w2.heap.size (.bool gn) (.int .u64 n0) (.int .u64 n1) (.int .u64 n2) (.int .u64 n3) := by rw [← hw5]; exact (by repeat (first | (with_reducible exact N4) | (with_reducible refine Row5.alloc ?_ _) | (with_reducible refine Row5.drew ?_)))
  have apB_A := A4.lt
  have apB_N := N4.lt
  have apB_0 := (BW4).size
  have B5 : Row5 w5 w4.heap.size (.bool ga) (.int .u64 a0) (.int .u64 a1) (.int .u64 a2) (.int .u64 a3) := by rw [← hw5]; exact (by repeat (first | (with_reducible exact Row5.new _ _ _ _ _ _) | ((with_reducible refine Row5.new' _ ?_ _ _ _ _ _); (simp; done)) | (with_reducible refine Row5.alloc ?_ _) | (with_reducible refine Row5.drew ?_)))
  clear A4 N4
  clear BW4
  clear hw5
  obtain ⟨Ac0, Ac1, Ac2, Ac3, Ac4⟩ := A5.parts
  obtain ⟨Af0, Af1, Af2, Af3, Af4⟩ := A5.free
  obtain ⟨Nc0, Nc1, Nc2, Nc3, Nc4⟩ := N5.parts
  obtain ⟨Nf0, Nf1, Nf2, Nf3, Nf4⟩ := N5.free
  obtain ⟨Bc0, Bc1, Bc2, Bc3, Bc4⟩ := B5.parts
  obtain ⟨Bf0, Bf1, Bf2, Bf3, Bf4⟩ := B5.free
  have hq := HQ.out
  go_wp2_with fail
  (with_reducible refine (K3.out _).mono ?_)
  rintro e w6 ⟨rfl, hb⟩
  have BW6 : Below w.heap.size w w6 := btr (by repeat (first | (with_reducible exact BW5) | (with_reducible refine bal ?_ _) | (with_reducible refine Below.drew ?_) | (with_reducible refine bdn ?_ _))) hb
  have A6 : Row5 w6 w.heap.size (.bool ga) (.int .u64 a0) (.int .u64 a1) (.int .u64 a2) (.int .u64 a3) := Row5.keep hb (by repeat (first | (with_reducible exact A5) | (with_reducible refine Row5.alloc ?_ _) | (with_reducible refine Row5.drew ?_)))
  have N6 : Row5 w6 w2.heap.size (.bool gn) (.int .u64 n0) (.int .u64 n1) (.int .u64 n2) (.int .u64 n3) := Row5.keep hb (by repeat (first | (with_reducible exact N5) | (with_reducible refine Row5.alloc ?_ _) | (with_reducible refine Row5.drew ?_)))
  have B6 : Row5 w6 w4.heap.size (.bool ga) (.int .u64 a0) (.int .u64 a1) (.int .u64 a2) (.int .u64 a3) := Row5.keep hb (by repeat (first | (with_reducible exact B5) | (with_reducible refine Row5.alloc ?_ _) | (with_reducible refine Row5.drew ?_)))
  clear A5 N5 B5
  clear BW5
  clear hb
  obtain ⟨Ac0, Ac1, Ac2, Ac3, Ac4⟩ := A6.parts
  obtain ⟨Af0, Af1, Af2, Af3, Af4⟩ := A6.free
  obtain ⟨Nc0, Nc1, Nc2, Nc3, Nc4⟩ := N6.parts
  obtain ⟨Nf0, Nf1, Nf2, Nf3, Nf4⟩ := N6.free
  go_wp2_with fail
  (with_reducible refine (K4.out _).mono ?_)
  rintro e w7 ⟨rfl, hb⟩
  have BW7 : Below w.heap.size w w7 := btr (by repeat (first | (with_reducible exact BW6) | (with_reducible refine bal ?_ _) | (with_reducible refine Below.drew ?_) | (with_reducible refine bdn ?_ _))) hb
  have A7 : Row5 w7 w.heap.size (.bool ga) (.int .u64 a0) (.int .u64 a1) (.int .u64 a2) (.int .u64 a3) := Row5.keep hb (by repeat (first | (with_reducible exact A6) | (with_reducible refine Row5.alloc ?_ _) | (with_reducible refine Row5.drew ?_)))
  have N7 : Row5 w7 w2.heap.size (.bool gn) (.int .u64 n0) (.int .u64 n1) (.int .u64 n2) (.int .u64 n3) := Row5.keep hb (by repeat (first | (with_reducible exact N6) | (with_reducible refine Row5.alloc ?_ _) | (with_reducible refine Row5.drew ?_)))
  have B7 : Row5 w7 w4.heap.size (.bool ga) (.int .u64 a0) (.int .u64 a1) (.int .u64 a2) (.int .u64 a3) := Row5.keep hb (by repeat (first | (with_reducible exact B6) | (with_reducible refine Row5.alloc ?_ _) | (with_reducible refine Row5.drew ?_)))
  clear A6 N6 B6
  clear BW6
  clear hb
  obtain ⟨Nc0, Nc1, Nc2, Nc3, Nc4⟩ := N7.parts
  obtain ⟨Nf0, Nf1, Nf2, Nf3, Nf4⟩ := N7.free
  go_wp2_with fail
  (with_reducible refine (K5.out _).mono ?_)
  rintro e w8 ⟨rfl, hb⟩
  have BW8 : Below w.heap.size w w8 := btr (by repeat (first | (with_reducible exact BW7) | (with_reducible refine bal ?_ _) | (with_reducible refine Below.drew ?_) | (with_reducible refine bdn ?_ _))) hb
  have A8 : Row5 w8 w.heap.size (.bool ga) (.int .u64 a0) (.int .u64 a1) (.int .u64 a2) (.int .u64 a3) := Row5.keep hb (by repeat (first | (with_reducible exact A7) | (with_reducible refine Row5.alloc ?_ _) | (with_reducible refine Row5.drew ?_)))
  have N8 : Row5 w8 w2.heap.size (.bool gn) (.int .u64 n0) (.int .u64 n1) (.int .u64 n2) (.int .u64 n3) := Row5.keep hb (by repeat (first | (with_reducible exact N7) | (with_reducible refine Row5.alloc ?_ _) | (with_reducible refine Row5.drew ?_)))
  have B8 : Row5 w8 w4.heap.size (.bool ga) (.int .u64 a0) (.int .u64 a1) (.int .u64 a2) (.int .u64 a3) := Row5.keep hb (by repeat (first | (with_reducible exact B7) | (with_reducible refine Row5.alloc ?_ _) | (with_reducible refine Row5.drew ?_)))
  clear A7 N7 B7
  clear BW7
  clear hb
  clear hq
  obtain ⟨Ac0, Ac1, Ac2, Ac3, Ac4⟩ := A8.parts
  obtain ⟨Af0, Af1, Af2, Af3, Af4⟩ := A8.free
  go_wp2_with fail
  (with_reducible refine (K6.out _).mono ?_)
  rintro e w9 ⟨rfl, hb⟩
  have BW9 : Below w.heap.size w w9 := btr (by repeat (first | (with_reducible exact BW8) | (with_reducible refine bal ?_ _) | (with_reducible refine Below.drew ?_) | (with_reducible refine bdn ?_ _))) hb
  have A9 : Row5 w9 w.heap.size (.bool ga) (.int .u64 a0) (.int .u64 a1) (.int .u64 a2) (.int .u64 a3) := Row5.keep hb (by repeat (first | (with_reducible exact A8) | (with_reducible refine Row5.alloc ?_ _) | (with_reducible refine Row5.drew ?_)))
  clear A8
  clear BW8
  clear hb
  go_upto_region 10 with (fail)
  go_name_world w10 hw10
  have BW10 : Below w.heap.size w w10 := by rw [← hw10]; repeat (first | (with_reducible exact BW9) | (with_reducible refine bal ?_ _) | (with_reducible refine Below.drew ?_) | (with_reducible refine bdn ?_ _))
  have A10 : Row5 w10 w.heap.size (.bool ga) (.int .u64 a0) (.int .u64 a1) (.int .u64 a2) (.int .u64 a3) := by rw [← hw10]; exact (by repeat (first | (with_reducible exact A9) | (with_reducible refine Row5.alloc ?_ _) | (with_reducible refine Row5.drew ?_)))
  have apM_A := A9.lt
  have apM_0 := (BW9).size
  have M10 : Row5 w10 w9.heap.size (.bool gm) (.int .u64 m0) (.int .u64 mm1) (.int .u64 m2) (.int .u64 m3) := by rw [← hw10]; exact (by repeat (first | (with_reducible exact Row5.new _ _ _ _ _ _) | ((with_reducible refine Row5.new' _ ?_ _ _ _ _ _); (simp; done)) | (with_reducible refine Row5.alloc ?_ _) | (with_reducible refine Row5.drew ?_)))
  clear A9
  clear BW9
  clear hw10
  obtain ⟨Mc0, Mc1, Mc2, Mc3, Mc4⟩ := M10.parts
  obtain ⟨Mf0, Mf1, Mf2, Mf3, Mf4⟩ := M10.free
  go_wp2_with fail
  (with_reducible refine (K7.out _).mono ?_)
  rintro e w11 ⟨rfl, hb⟩
  have BW11 : Below w.heap.size w w11 := btr (by repeat (first | (with_reducible exact BW10) | (with_reducible refine bal ?_ _) | (with_reducible refine Below.drew ?_) | (with_reducible refine bdn ?_ _))) hb
  have A11 : Row5 w11 w.heap.size (.bool ga) (.int .u64 a0) (.int .u64 a1) (.int .u64 a2) (.int .u64 a3) := Row5.keep hb (by repeat (first | (with_reducible exact A10) | (with_reducible refine Row5.alloc ?_ _) | (with_reducible refine Row5.drew ?_)))
  have M11 : Row5 w11 w9.heap.size (.bool gm) (.int .u64 m0) (.int .u64 mm1) (.int .u64 m2) (.int .u64 m3) := Row5.keep hb (by repeat (first | (with_reducible exact M10) | (with_reducible refine Row5.alloc ?_ _) | (with_reducible refine Row5.drew ?_)))
  clear A10 M10
  clear BW10
  clear hb
  go_upto_region 11 with (fail)
  go_name_world w12 hw12
  have BW12 : Below w.heap.size w w12 := by rw [← hw12]; repeat (first | (with_reducible exact BW11) | (with_reducible refine bal ?_ _) | (with_reducible refine Below.drew ?_) | (with_reducible refine bdn ?_ _))
  have A12 : Row5 w12 w.heap.size (.bool ga) (.int .u64 a0) (.int .u64 a1) (.int .u64 a2) (.int .u64 a3) := by rw [← hw12]; exact (by repeat (first | (with_reducible exact A11) | (with_reducible refine Row5.alloc ?_ _) | (with_reducible refine Row5.drew ?_)))
  have M12 : Row5 w12 w9.heap.size (.bool gm) (.int .u64 m0) (.int .u64 mm1) (.int .u64 m2) (.int .u64 m3) := by rw [← hw12]; exact (by repeat (first | (with_reducible exact M11) | (with_reducible refine Row5.alloc ?_ _) | (with_reducible refine Row5.drew ?_)))
  have apC_A := A11.lt
  have apC_M := M11.lt
  have apC_0 := (BW11).size
  have C12 : Row5 w12 w11.heap.size (.bool ga) (.int .u64 a0) (.int .u64 a1) (.int .u64 a2) (.int .u64 a3) := by rw [← hw12]; exact (by repeat (first | (with_reducible exact Row5.new _ _ _ _ _ _) | ((with_reducible refine Row5.new' _ ?_ _ _ _ _ _); (simp; done)) | (with_reducible refine Row5.alloc ?_ _) | (with_reducible refine Row5.drew ?_)))
  clear A11 M11
  clear BW11
  clear hw12
  obtain ⟨Ac0, Ac1, Ac2, Ac3, Ac4⟩ := A12.parts
  obtain ⟨Af0, Af1, Af2, Af3, Af4⟩ := A12.free
  obtain ⟨Mc0, Mc1, Mc2, Mc3, Mc4⟩ := M12.parts
  obtain ⟨Mf0, Mf1, Mf2, Mf3, Mf4⟩ := M12.free
  obtain ⟨Cc0, Cc1, Cc2, Cc3, Cc4⟩ := C12.parts
  obtain ⟨Cf0, Cf1, Cf2, Cf3, Cf4⟩ := C12.free
  have hq := HQ.out
  go_wp2_with fail
  (with_reducible refine (K8.out _).mono ?_)
  rintro e w13 ⟨rfl, hb⟩
  have BW13 : Below w.heap.size w w13 := btr (by repeat (first | (with_reducible exact BW12) | (with_reducible refine bal ?_ _) | (with_reducible refine Below.drew ?_) | (with_reducible refine bdn ?_ _))) hb
  have A13 : Row5 w13 w.heap.size (.bool ga) (.int .u64 a0) (.int .u64 a1) (.int .u64 a2) (.int .u64 a3) := Row5.keep hb (by repeat (first | (with_reducible exact A12) | (with_reducible refine Row5.alloc ?_ _) | (with_reducible refine Row5.drew ?_)))
  have M13 : Row5 w13 w9.heap.size (.bool gm) (.int .u64 m0) (.int .u64 mm1) (.int .u64 m2) (.int .u64 m3) := Row5.keep hb (by repeat (first | (with_reducible exact M12) | (with_reducible refine Row5.alloc ?_ _) | (with_reducible refine Row5.drew ?_)))
  have C13 : Row5 w13 w11.heap.size (.bool ga) (.int .u64 a0) (.int .u64 a1) (.int .u64 a2) (.int .u64 a3) := Row5.keep hb (by repeat (first | (with_reducible exact C12) | (with_reducible refine Row5.alloc ?_ _) | (with_reducible refine Row5.drew ?_)))
  clear A12 M12 C12
  clear BW12
  clear hb
  obtain ⟨Mc0, Mc1, Mc2, Mc3, Mc4⟩ := M13.parts
  obtain ⟨Mf0, Mf1, Mf2, Mf3, Mf4⟩ := M13.free
  go_wp2_with fail
  (with_reducible refine (K9.out _).mono ?_)
  rintro e w14 ⟨rfl, hb⟩
  have BW14 : Below w.heap.size w w14 := btr (by repeat (first | (with_reducible exact BW13) | (with_reducible refine bal ?_ _) | (with_reducible refine Below.drew ?_) | (with_reducible refine bdn ?_ _))) hb
  have A14 : Row5 w14 w.heap.size (.bool ga) (.int .u64 a0) (.int .u64 a1) (.int .u64 a2) (.int .u64 a3) := Row5.keep hb (by repeat (first | (with_reducible exact A13) | (with_reducible refine Row5.alloc ?_ _) | (with_reducible refine Row5.drew ?_)))
  have M14 : Row5 w14 w9.heap.size (.bool gm) (.int .u64 m0) (.int .u64 mm1) (.int .u64 m2) (.int .u64 m3) := Row5.keep hb (by repeat (first | (with_reducible exact M13) | (with_reducible refine Row5.alloc ?_ _) | (with_reducible refine Row5.drew ?_)))
  have C14 : Row5 w14 w11.heap.size (.bool ga) (.int .u64 a0) (.int .u64 a1) (.int .u64 a2) (.int .u64 a3) := Row5.keep hb (by repeat (first | (with_reducible exact C13) | (with_reducible refine Row5.alloc ?_ _) | (with_reducible refine Row5.drew ?_)))
  clear A13 M13 C13
  clear BW13
  clear hb
  clear hq
  go_wp2_with fail
  refine (told2_true _ (tabs_on HT.out (by repeat (first | (with_reducible exact BW14) | (with_reducible refine bal ?_ _) | (with_reducible refine Below.drew ?_) | (with_reducible refine bdn ?_ _))))).mono ?_
  rintro e w15 ⟨rfl, hb⟩
  have BW15 : Below w.heap.size w w15 := btr (by repeat (first | (with_reducible exact BW14) | (with_reducible refine bal ?_ _) | (with_reducible refine Below.drew ?_) | (with_reducible refine bdn ?_ _))) hb
  have A15 : Row5 w15 w.heap.size (.bool ga) (.int .u64 a0) (.int .u64 a1) (.int .u64 a2) (.int .u64 a3) := Row5.keep hb (by repeat (first | (with_reducible exact A14) | (with_reducible refine Row5.alloc ?_ _) | (with_reducible refine Row5.drew ?_)))
  clear A14
  clear BW14
  clear hb
  obtain ⟨Ac0, Ac1, Ac2, Ac3, Ac4⟩ := A15.parts
  obtain ⟨Af0, Af1, Af2, Af3, Af4⟩ := A15.free
  go_wp2_with fail
  refine (K11.out _ (tab_on HT.out.1 (by repeat (first | (with_reducible exact BW15) | (with_reducible refine bal ?_ _) | (with_reducible refine Below.drew ?_) | (with_reducible refine bdn ?_ _))))).mono ?_
  rintro e w16 ⟨rfl, hb⟩
  have BW16 : Below w.heap.size w w16 := btr (by repeat (first | (with_reducible exact BW15) | (with_reducible refine bal ?_ _) | (with_reducible refine Below.drew ?_) | (with_reducible refine bdn ?_ _))) hb
  have A16 : Row5 w16 w.heap.size (.bool ga) (.int .u64 a0) (.int .u64 a1) (.int .u64 a2) (.int .u64 a3) := Row5.keep hb (by repeat (first | (with_reducible exact A15) | (with_reducible refine Row5.alloc ?_ _) | (with_reducible refine Row5.drew ?_)))
  clear A15
  clear BW15
  clear hb
  go_wp2
  go_ret
  exact ⟨rfl, BW16⟩

set_option maxHeartbeats 4000000 in
set_option maxRecDepth 100000 in
theorem steps_tf (ga gn gm : Bool) (a0 a1 a2 a3 n0 n1 n2 n3 m0 mm1 m2 m3 : Int) (s : ByteArray) (hs : (s.size : Int) ≤ 79) (hq : eq5 ga a0 a1 a2 a3 ga a0 a1 a2 a3 = true)
    (m1 : ∀ W, Calls Tryd.prog 46 #[.agg #[.bool ga, .int .u64 a0, .int .u64 a1, .int .u64 a2, .int .u64 a3]] W fun e w' => e = .returned (.bool true) ∧ Below W.heap.size W w')
    (k1 : ∀ W, Calls Tryd.prog 56 #[.agg #[.bool ga, .int .u64 a0, .int .u64 a1, .int .u64 a2, .int .u64 a3]] W fun e w' => e = .returned (.tuple #[.agg #[.bool gn, .int .u64 n0, .int .u64 n1, .int .u64 n2, .int .u64 n3], .bool true]) ∧ Below W.heap.size W w')
    (k6 : ∀ W, Calls Tryd.prog 58 #[.agg #[.bool ga, .int .u64 a0, .int .u64 a1, .int .u64 a2, .int .u64 a3]] W fun e w' => e = .returned (.tuple #[.agg #[.bool gm, .int .u64 m0, .int .u64 mm1, .int .u64 m2, .int .u64 m3], .bool false]) ∧ Below W.heap.size W w')
    (k11 : ∀ W, Tab W → Calls Tryd.prog 64 #[.agg #[.bool ga, .int .u64 a0, .int .u64 a1, .int .u64 a2, .int .u64 a3]] W fun e w' => e = .returned (.string s) ∧ Below W.heap.size W w')
    (k2 : ∀ W, Calls Tryd.prog 58 #[.agg #[.bool gn, .int .u64 n0, .int .u64 n1, .int .u64 n2, .int .u64 n3]] W fun e w' => e = .returned (.tuple #[.agg #[.bool ga, .int .u64 a0, .int .u64 a1, .int .u64 a2, .int .u64 a3], .bool true]) ∧ Below W.heap.size W w')
    (k3 : ∀ W, Calls Tryd.prog 61 #[.agg #[.bool gn, .int .u64 n0, .int .u64 n1, .int .u64 n2, .int .u64 n3], .agg #[.bool ga, .int .u64 a0, .int .u64 a1, .int .u64 a2, .int .u64 a3]] W fun e w' => e = .returned (.int .i64 1) ∧ Below W.heap.size W w')
    (k4 : ∀ W, Calls Tryd.prog 61 #[.agg #[.bool ga, .int .u64 a0, .int .u64 a1, .int .u64 a2, .int .u64 a3], .agg #[.bool gn, .int .u64 n0, .int .u64 n1, .int .u64 n2, .int .u64 n3]] W fun e w' => e = .returned (.int .i64 (-1)) ∧ Below W.heap.size W w')
    (k5 : ∀ W, Calls Tryd.prog 46 #[.agg #[.bool gn, .int .u64 n0, .int .u64 n1, .int .u64 n2, .int .u64 n3]] W fun e w' => e = .returned (.bool true) ∧ Below W.heap.size W w') (w : World) (hT : Tabs w) :
    Calls Tryd.prog 13 #[.agg #[.bool ga, .int .u64 a0, .int .u64 a1, .int .u64 a2, .int .u64 a3]] w fun e w' => e = .returned (.bool true) ∧ Below w.heap.size w w' := by
  have HQ := Lib.hid hq; clear hq
  have M1 := Lib.hid m1; clear m1
  have K1 := Lib.hid k1; clear k1
  have K6 := Lib.hid k6; clear k6
  have K11 := Lib.hid k11; clear k11
  have K2 := Lib.hid k2; clear k2
  have K3 := Lib.hid k3; clear k3
  have K4 := Lib.hid k4; clear k4
  have K5 := Lib.hid k5; clear k5
  have HT := Lib.hid hT; clear hT
  go_enter Tryd.func13, Tryd.ntmps13
  go_wp2_with fail
  (with_reducible refine (M1.out _).mono ?_)
  rintro e w1 ⟨rfl, hb⟩
  have BW1 : Below w.heap.size w w1 := btr (by repeat (first | (with_reducible exact Below.refl _ _) | (with_reducible refine bal ?_ _) | (with_reducible refine Below.drew ?_) | (with_reducible refine bdn ?_ _))) hb
  have A1 : Row5 w1 w.heap.size (.bool ga) (.int .u64 a0) (.int .u64 a1) (.int .u64 a2) (.int .u64 a3) := Row5.keep hb (by repeat (first | (with_reducible exact Row5.new _ _ _ _ _ _) | ((with_reducible refine Row5.new' _ ?_ _ _ _ _ _); (simp; done)) | (with_reducible refine Row5.alloc ?_ _) | (with_reducible refine Row5.drew ?_)))
  clear hb
  obtain ⟨Ac0, Ac1, Ac2, Ac3, Ac4⟩ := A1.parts
  obtain ⟨Af0, Af1, Af2, Af3, Af4⟩ := A1.free
  go_wp2_with fail
  (with_reducible refine (K1.out _).mono ?_)
  rintro e w2 ⟨rfl, hb⟩
  have BW2 : Below w.heap.size w w2 := btr (by repeat (first | (with_reducible exact BW1) | (with_reducible refine bal ?_ _) | (with_reducible refine Below.drew ?_) | (with_reducible refine bdn ?_ _))) hb
  have A2 : Row5 w2 w.heap.size (.bool ga) (.int .u64 a0) (.int .u64 a1) (.int .u64 a2) (.int .u64 a3) := Row5.keep hb (by repeat (first | (with_reducible exact A1) | (with_reducible refine Row5.alloc ?_ _) | (with_reducible refine Row5.drew ?_)))
  clear A1
  clear BW1
  clear hb
  go_upto_region 5 with (fail)
  go_name_world w3 hw3
  have BW3 : Below w.heap.size w w3 := by rw [← hw3]; repeat (first | (with_reducible exact BW2) | (with_reducible refine bal ?_ _) | (with_reducible refine Below.drew ?_) | (with_reducible refine bdn ?_ _))
  have A3 : Row5 w3 w.heap.size (.bool ga) (.int .u64 a0) (.int .u64 a1) (.int .u64 a2) (.int .u64 a3) := by rw [← hw3]; exact (by repeat (first | (with_reducible exact A2) | (with_reducible refine Row5.alloc ?_ _) | (with_reducible refine Row5.drew ?_)))
  have apN_A := A2.lt
  have apN_0 := (BW2).size
  have N3 : Row5 w3 w2.heap.size (.bool gn) (.int .u64 n0) (.int .u64 n1) (.int .u64 n2) (.int .u64 n3) := by rw [← hw3]; exact (by repeat (first | (with_reducible exact Row5.new _ _ _ _ _ _) | ((with_reducible refine Row5.new' _ ?_ _ _ _ _ _); (simp; done)) | (with_reducible refine Row5.alloc ?_ _) | (with_reducible refine Row5.drew ?_)))
  clear A2
  clear BW2
  clear hw3
  obtain ⟨Nc0, Nc1, Nc2, Nc3, Nc4⟩ := N3.parts
  obtain ⟨Nf0, Nf1, Nf2, Nf3, Nf4⟩ := N3.free
  go_wp2_with fail
  (with_reducible refine (K2.out _).mono ?_)
  rintro e w4 ⟨rfl, hb⟩
  have BW4 : Below w.heap.size w w4 := btr (by repeat (first | (with_reducible exact BW3) | (with_reducible refine bal ?_ _) | (with_reducible refine Below.drew ?_) | (with_reducible refine bdn ?_ _))) hb
  have A4 : Row5 w4 w.heap.size (.bool ga) (.int .u64 a0) (.int .u64 a1) (.int .u64 a2) (.int .u64 a3) := Row5.keep hb (by repeat (first | (with_reducible exact A3) | (with_reducible refine Row5.alloc ?_ _) | (with_reducible refine Row5.drew ?_)))
  have N4 : Row5 w4 w2.heap.size (.bool gn) (.int .u64 n0) (.int .u64 n1) (.int .u64 n2) (.int .u64 n3) := Row5.keep hb (by repeat (first | (with_reducible exact N3) | (with_reducible refine Row5.alloc ?_ _) | (with_reducible refine Row5.drew ?_)))
  clear A3 N3
  clear BW3
  clear hb
  go_upto_region 6 with (fail)
  go_name_world w5 hw5
  have BW5 : Below w.heap.size w w5 := by rw [← hw5]; repeat (first | (with_reducible exact BW4) | (with_reducible refine bal ?_ _) | (with_reducible refine Below.drew ?_) | (with_reducible refine bdn ?_ _))
  have A5 : Row5 w5 w.heap.size (.bool ga) (.int .u64 a0) (.int .u64 a1) (.int .u64 a2) (.int .u64 a3) := by rw [← hw5]; exact (by repeat (first | (with_reducible exact A4) | (with_reducible refine Row5.alloc ?_ _) | (with_reducible refine Row5.drew ?_)))
  have N5 : Row5 w5 w2.heap.size (.bool gn) (.int .u64 n0) (.int .u64 n1) (.int .u64 n2) (.int .u64 n3) := by rw [← hw5]; exact (by repeat (first | (with_reducible exact N4) | (with_reducible refine Row5.alloc ?_ _) | (with_reducible refine Row5.drew ?_)))
  have apB_A := A4.lt
  have apB_N := N4.lt
  have apB_0 := (BW4).size
  have B5 : Row5 w5 w4.heap.size (.bool ga) (.int .u64 a0) (.int .u64 a1) (.int .u64 a2) (.int .u64 a3) := by rw [← hw5]; exact (by repeat (first | (with_reducible exact Row5.new _ _ _ _ _ _) | ((with_reducible refine Row5.new' _ ?_ _ _ _ _ _); (simp; done)) | (with_reducible refine Row5.alloc ?_ _) | (with_reducible refine Row5.drew ?_)))
  clear A4 N4
  clear BW4
  clear hw5
  obtain ⟨Ac0, Ac1, Ac2, Ac3, Ac4⟩ := A5.parts
  obtain ⟨Af0, Af1, Af2, Af3, Af4⟩ := A5.free
  obtain ⟨Nc0, Nc1, Nc2, Nc3, Nc4⟩ := N5.parts
  obtain ⟨Nf0, Nf1, Nf2, Nf3, Nf4⟩ := N5.free
  obtain ⟨Bc0, Bc1, Bc2, Bc3, Bc4⟩ := B5.parts
  obtain ⟨Bf0, Bf1, Bf2, Bf3, Bf4⟩ := B5.free
  have hq := HQ.out
  go_wp2_with fail
  (with_reducible refine (K3.out _).mono ?_)
  rintro e w6 ⟨rfl, hb⟩
  have BW6 : Below w.heap.size w w6 := btr (by repeat (first | (with_reducible exact BW5) | (with_reducible refine bal ?_ _) | (with_reducible refine Below.drew ?_) | (with_reducible refine bdn ?_ _))) hb
  have A6 : Row5 w6 w.heap.size (.bool ga) (.int .u64 a0) (.int .u64 a1) (.int .u64 a2) (.int .u64 a3) := Row5.keep hb (by repeat (first | (with_reducible exact A5) | (with_reducible refine Row5.alloc ?_ _) | (with_reducible refine Row5.drew ?_)))
  have N6 : Row5 w6 w2.heap.size (.bool gn) (.int .u64 n0) (.int .u64 n1) (.int .u64 n2) (.int .u64 n3) := Row5.keep hb (by repeat (first | (with_reducible exact N5) | (with_reducible refine Row5.alloc ?_ _) | (with_reducible refine Row5.drew ?_)))
  have B6 : Row5 w6 w4.heap.size (.bool ga) (.int .u64 a0) (.int .u64 a1) (.int .u64 a2) (.int .u64 a3) := Row5.keep hb (by repeat (first | (with_reducible exact B5) | (with_reducible refine Row5.alloc ?_ _) | (with_reducible refine Row5.drew ?_)))
  clear A5 N5 B5
  clear BW5
  clear hb
  obtain ⟨Ac0, Ac1, Ac2, Ac3, Ac4⟩ := A6.parts
  obtain ⟨Af0, Af1, Af2, Af3, Af4⟩ := A6.free
  obtain ⟨Nc0, Nc1, Nc2, Nc3, Nc4⟩ := N6.parts
  obtain ⟨Nf0, Nf1, Nf2, Nf3, Nf4⟩ := N6.free
  go_wp2_with fail
  (with_reducible refine (K4.out _).mono ?_)
  rintro e w7 ⟨rfl, hb⟩
  have BW7 : Below w.heap.size w w7 := btr (by repeat (first | (with_reducible exact BW6) | (with_reducible refine bal ?_ _) | (with_reducible refine Below.drew ?_) | (with_reducible refine bdn ?_ _))) hb
  have A7 : Row5 w7 w.heap.size (.bool ga) (.int .u64 a0) (.int .u64 a1) (.int .u64 a2) (.int .u64 a3) := Row5.keep hb (by repeat (first | (with_reducible exact A6) | (with_reducible refine Row5.alloc ?_ _) | (with_reducible refine Row5.drew ?_)))
  have N7 : Row5 w7 w2.heap.size (.bool gn) (.int .u64 n0) (.int .u64 n1) (.int .u64 n2) (.int .u64 n3) := Row5.keep hb (by repeat (first | (with_reducible exact N6) | (with_reducible refine Row5.alloc ?_ _) | (with_reducible refine Row5.drew ?_)))
  have B7 : Row5 w7 w4.heap.size (.bool ga) (.int .u64 a0) (.int .u64 a1) (.int .u64 a2) (.int .u64 a3) := Row5.keep hb (by repeat (first | (with_reducible exact B6) | (with_reducible refine Row5.alloc ?_ _) | (with_reducible refine Row5.drew ?_)))
  clear A6 N6 B6
  clear BW6
  clear hb
  obtain ⟨Nc0, Nc1, Nc2, Nc3, Nc4⟩ := N7.parts
  obtain ⟨Nf0, Nf1, Nf2, Nf3, Nf4⟩ := N7.free
  go_wp2_with fail
  (with_reducible refine (K5.out _).mono ?_)
  rintro e w8 ⟨rfl, hb⟩
  have BW8 : Below w.heap.size w w8 := btr (by repeat (first | (with_reducible exact BW7) | (with_reducible refine bal ?_ _) | (with_reducible refine Below.drew ?_) | (with_reducible refine bdn ?_ _))) hb
  have A8 : Row5 w8 w.heap.size (.bool ga) (.int .u64 a0) (.int .u64 a1) (.int .u64 a2) (.int .u64 a3) := Row5.keep hb (by repeat (first | (with_reducible exact A7) | (with_reducible refine Row5.alloc ?_ _) | (with_reducible refine Row5.drew ?_)))
  have N8 : Row5 w8 w2.heap.size (.bool gn) (.int .u64 n0) (.int .u64 n1) (.int .u64 n2) (.int .u64 n3) := Row5.keep hb (by repeat (first | (with_reducible exact N7) | (with_reducible refine Row5.alloc ?_ _) | (with_reducible refine Row5.drew ?_)))
  have B8 : Row5 w8 w4.heap.size (.bool ga) (.int .u64 a0) (.int .u64 a1) (.int .u64 a2) (.int .u64 a3) := Row5.keep hb (by repeat (first | (with_reducible exact B7) | (with_reducible refine Row5.alloc ?_ _) | (with_reducible refine Row5.drew ?_)))
  clear A7 N7 B7
  clear BW7
  clear hb
  clear hq
  obtain ⟨Ac0, Ac1, Ac2, Ac3, Ac4⟩ := A8.parts
  obtain ⟨Af0, Af1, Af2, Af3, Af4⟩ := A8.free
  go_wp2_with fail
  (with_reducible refine (K6.out _).mono ?_)
  rintro e w9 ⟨rfl, hb⟩
  have BW9 : Below w.heap.size w w9 := btr (by repeat (first | (with_reducible exact BW8) | (with_reducible refine bal ?_ _) | (with_reducible refine Below.drew ?_) | (with_reducible refine bdn ?_ _))) hb
  have A9 : Row5 w9 w.heap.size (.bool ga) (.int .u64 a0) (.int .u64 a1) (.int .u64 a2) (.int .u64 a3) := Row5.keep hb (by repeat (first | (with_reducible exact A8) | (with_reducible refine Row5.alloc ?_ _) | (with_reducible refine Row5.drew ?_)))
  clear A8
  clear BW8
  clear hb
  go_upto_region 13 with (fail)
  go_name_world w10 hw10
  have BW10 : Below w.heap.size w w10 := by rw [← hw10]; repeat (first | (with_reducible exact BW9) | (with_reducible refine bal ?_ _) | (with_reducible refine Below.drew ?_) | (with_reducible refine bdn ?_ _))
  have A10 : Row5 w10 w.heap.size (.bool ga) (.int .u64 a0) (.int .u64 a1) (.int .u64 a2) (.int .u64 a3) := by rw [← hw10]; exact (by repeat (first | (with_reducible exact A9) | (with_reducible refine Row5.alloc ?_ _) | (with_reducible refine Row5.drew ?_)))
  have apM_A := A9.lt
  have apM_0 := (BW9).size
  have M10 : Row5 w10 w9.heap.size (.bool gm) (.int .u64 m0) (.int .u64 mm1) (.int .u64 m2) (.int .u64 m3) := by rw [← hw10]; exact (by repeat (first | (with_reducible exact Row5.new _ _ _ _ _ _) | ((with_reducible refine Row5.new' _ ?_ _ _ _ _ _); (simp; done)) | (with_reducible refine Row5.alloc ?_ _) | (with_reducible refine Row5.drew ?_)))
  clear A9
  clear BW9
  clear hw10
  go_wp2_with fail
  refine (told2_true _ (tabs_on HT.out (by repeat (first | (with_reducible exact BW10) | (with_reducible refine bal ?_ _) | (with_reducible refine Below.drew ?_) | (with_reducible refine bdn ?_ _))))).mono ?_
  rintro e w11 ⟨rfl, hb⟩
  have BW11 : Below w.heap.size w w11 := btr (by repeat (first | (with_reducible exact BW10) | (with_reducible refine bal ?_ _) | (with_reducible refine Below.drew ?_) | (with_reducible refine bdn ?_ _))) hb
  have A11 : Row5 w11 w.heap.size (.bool ga) (.int .u64 a0) (.int .u64 a1) (.int .u64 a2) (.int .u64 a3) := Row5.keep hb (by repeat (first | (with_reducible exact A10) | (with_reducible refine Row5.alloc ?_ _) | (with_reducible refine Row5.drew ?_)))
  clear A10
  clear BW10
  clear hb
  obtain ⟨Ac0, Ac1, Ac2, Ac3, Ac4⟩ := A11.parts
  obtain ⟨Af0, Af1, Af2, Af3, Af4⟩ := A11.free
  go_wp2_with fail
  refine (K11.out _ (tab_on HT.out.1 (by repeat (first | (with_reducible exact BW11) | (with_reducible refine bal ?_ _) | (with_reducible refine Below.drew ?_) | (with_reducible refine bdn ?_ _))))).mono ?_
  rintro e w12 ⟨rfl, hb⟩
  have BW12 : Below w.heap.size w w12 := btr (by repeat (first | (with_reducible exact BW11) | (with_reducible refine bal ?_ _) | (with_reducible refine Below.drew ?_) | (with_reducible refine bdn ?_ _))) hb
  have A12 : Row5 w12 w.heap.size (.bool ga) (.int .u64 a0) (.int .u64 a1) (.int .u64 a2) (.int .u64 a3) := Row5.keep hb (by repeat (first | (with_reducible exact A11) | (with_reducible refine Row5.alloc ?_ _) | (with_reducible refine Row5.drew ?_)))
  clear A11
  clear BW11
  clear hb
  go_wp2
  go_ret
  exact ⟨rfl, BW12⟩

set_option maxHeartbeats 4000000 in
set_option maxRecDepth 100000 in
theorem steps_ft (ga gn gm : Bool) (a0 a1 a2 a3 n0 n1 n2 n3 m0 mm1 m2 m3 : Int) (s : ByteArray) (hs : (s.size : Int) ≤ 79) (hq : eq5 ga a0 a1 a2 a3 ga a0 a1 a2 a3 = true)
    (m1 : ∀ W, Calls Tryd.prog 46 #[.agg #[.bool ga, .int .u64 a0, .int .u64 a1, .int .u64 a2, .int .u64 a3]] W fun e w' => e = .returned (.bool true) ∧ Below W.heap.size W w')
    (k1 : ∀ W, Calls Tryd.prog 56 #[.agg #[.bool ga, .int .u64 a0, .int .u64 a1, .int .u64 a2, .int .u64 a3]] W fun e w' => e = .returned (.tuple #[.agg #[.bool gn, .int .u64 n0, .int .u64 n1, .int .u64 n2, .int .u64 n3], .bool false]) ∧ Below W.heap.size W w')
    (k6 : ∀ W, Calls Tryd.prog 58 #[.agg #[.bool ga, .int .u64 a0, .int .u64 a1, .int .u64 a2, .int .u64 a3]] W fun e w' => e = .returned (.tuple #[.agg #[.bool gm, .int .u64 m0, .int .u64 mm1, .int .u64 m2, .int .u64 m3], .bool true]) ∧ Below W.heap.size W w')
    (k11 : ∀ W, Tab W → Calls Tryd.prog 64 #[.agg #[.bool ga, .int .u64 a0, .int .u64 a1, .int .u64 a2, .int .u64 a3]] W fun e w' => e = .returned (.string s) ∧ Below W.heap.size W w')
    (k10 : ∀ W, Tb W → Calls Tryd.prog 71 #[.agg #[.bool ga, .int .u64 a0, .int .u64 a1, .int .u64 a2, .int .u64 a3]] W fun e w' => e = .returned (.bool false) ∧ Below W.heap.size W w')
    (k7 : ∀ W, Calls Tryd.prog 56 #[.agg #[.bool gm, .int .u64 m0, .int .u64 mm1, .int .u64 m2, .int .u64 m3]] W fun e w' => e = .returned (.tuple #[.agg #[.bool ga, .int .u64 a0, .int .u64 a1, .int .u64 a2, .int .u64 a3], .bool true]) ∧ Below W.heap.size W w')
    (k8 : ∀ W, Calls Tryd.prog 61 #[.agg #[.bool gm, .int .u64 m0, .int .u64 mm1, .int .u64 m2, .int .u64 m3], .agg #[.bool ga, .int .u64 a0, .int .u64 a1, .int .u64 a2, .int .u64 a3]] W fun e w' => e = .returned (.int .i64 (-1)) ∧ Below W.heap.size W w')
    (k9 : ∀ W, Calls Tryd.prog 46 #[.agg #[.bool gm, .int .u64 m0, .int .u64 mm1, .int .u64 m2, .int .u64 m3]] W fun e w' => e = .returned (.bool true) ∧ Below W.heap.size W w') (w : World) (hT : Tabs w) :
    Calls Tryd.prog 13 #[.agg #[.bool ga, .int .u64 a0, .int .u64 a1, .int .u64 a2, .int .u64 a3]] w fun e w' => e = .returned (.bool true) ∧ Below w.heap.size w w' := by
  have HQ := Lib.hid hq; clear hq
  have M1 := Lib.hid m1; clear m1
  have K1 := Lib.hid k1; clear k1
  have K6 := Lib.hid k6; clear k6
  have K11 := Lib.hid k11; clear k11
  have K10 := Lib.hid k10; clear k10
  have K7 := Lib.hid k7; clear k7
  have K8 := Lib.hid k8; clear k8
  have K9 := Lib.hid k9; clear k9
  have HT := Lib.hid hT; clear hT
  go_enter Tryd.func13, Tryd.ntmps13
  go_wp2_with fail
  (with_reducible refine (M1.out _).mono ?_)
  rintro e w1 ⟨rfl, hb⟩
  have BW1 : Below w.heap.size w w1 := btr (by repeat (first | (with_reducible exact Below.refl _ _) | (with_reducible refine bal ?_ _) | (with_reducible refine Below.drew ?_) | (with_reducible refine bdn ?_ _))) hb
  have A1 : Row5 w1 w.heap.size (.bool ga) (.int .u64 a0) (.int .u64 a1) (.int .u64 a2) (.int .u64 a3) := Row5.keep hb (by repeat (first | (with_reducible exact Row5.new _ _ _ _ _ _) | ((with_reducible refine Row5.new' _ ?_ _ _ _ _ _); (simp; done)) | (with_reducible refine Row5.alloc ?_ _) | (with_reducible refine Row5.drew ?_)))
  clear hb
  obtain ⟨Ac0, Ac1, Ac2, Ac3, Ac4⟩ := A1.parts
  obtain ⟨Af0, Af1, Af2, Af3, Af4⟩ := A1.free
  go_wp2_with fail
  (with_reducible refine (K1.out _).mono ?_)
  rintro e w2 ⟨rfl, hb⟩
  have BW2 : Below w.heap.size w w2 := btr (by repeat (first | (with_reducible exact BW1) | (with_reducible refine bal ?_ _) | (with_reducible refine Below.drew ?_) | (with_reducible refine bdn ?_ _))) hb
  have A2 : Row5 w2 w.heap.size (.bool ga) (.int .u64 a0) (.int .u64 a1) (.int .u64 a2) (.int .u64 a3) := Row5.keep hb (by repeat (first | (with_reducible exact A1) | (with_reducible refine Row5.alloc ?_ _) | (with_reducible refine Row5.drew ?_)))
  clear A1
  clear BW1
  clear hb
  go_upto_region 8 with (fail)
  go_name_world w3 hw3
  have BW3 : Below w.heap.size w w3 := by rw [← hw3]; repeat (first | (with_reducible exact BW2) | (with_reducible refine bal ?_ _) | (with_reducible refine Below.drew ?_) | (with_reducible refine bdn ?_ _))
  have A3 : Row5 w3 w.heap.size (.bool ga) (.int .u64 a0) (.int .u64 a1) (.int .u64 a2) (.int .u64 a3) := by rw [← hw3]; exact (by repeat (first | (with_reducible exact A2) | (with_reducible refine Row5.alloc ?_ _) | (with_reducible refine Row5.drew ?_)))
  have apN_A := A2.lt
  have apN_0 := (BW2).size
  have N3 : Row5 w3 w2.heap.size (.bool gn) (.int .u64 n0) (.int .u64 n1) (.int .u64 n2) (.int .u64 n3) := by rw [← hw3]; exact (by repeat (first | (with_reducible exact Row5.new _ _ _ _ _ _) | ((with_reducible refine Row5.new' _ ?_ _ _ _ _ _); (simp; done)) | (with_reducible refine Row5.alloc ?_ _) | (with_reducible refine Row5.drew ?_)))
  clear A2
  clear BW2
  clear hw3
  obtain ⟨Ac0, Ac1, Ac2, Ac3, Ac4⟩ := A3.parts
  obtain ⟨Af0, Af1, Af2, Af3, Af4⟩ := A3.free
  go_wp2_with fail
  (with_reducible refine (K6.out _).mono ?_)
  rintro e w4 ⟨rfl, hb⟩
  have BW4 : Below w.heap.size w w4 := btr (by repeat (first | (with_reducible exact BW3) | (with_reducible refine bal ?_ _) | (with_reducible refine Below.drew ?_) | (with_reducible refine bdn ?_ _))) hb
  have A4 : Row5 w4 w.heap.size (.bool ga) (.int .u64 a0) (.int .u64 a1) (.int .u64 a2) (.int .u64 a3) := Row5.keep hb (by repeat (first | (with_reducible exact A3) | (with_reducible refine Row5.alloc ?_ _) | (with_reducible refine Row5.drew ?_)))
  clear A3
  clear BW3
  clear hb
  go_upto_region 10 with (fail)
  go_name_world w5 hw5
  have BW5 : Below w.heap.size w w5 := by rw [← hw5]; repeat (first | (with_reducible exact BW4) | (with_reducible refine bal ?_ _) | (with_reducible refine Below.drew ?_) | (with_reducible refine bdn ?_ _))
  have A5 : Row5 w5 w.heap.size (.bool ga) (.int .u64 a0) (.int .u64 a1) (.int .u64 a2) (.int .u64 a3) := by rw [← hw5]; exact (by repeat (first | (with_reducible exact A4) | (with_reducible refine Row5.alloc ?_ _) | (with_reducible refine Row5.drew ?_)))
  have apM_A := A4.lt
  have apM_0 := (BW4).size
  have M5 : Row5 w5 w4.heap.size (.bool gm) (.int .u64 m0) (.int .u64 mm1) (.int .u64 m2) (.int .u64 m3) := by rw [← hw5]; exact (by repeat (first | (with_reducible exact Row5.new _ _ _ _ _ _) | ((with_reducible refine Row5.new' _ ?_ _ _ _ _ _); (simp; done)) | (with_reducible refine Row5.alloc ?_ _) | (with_reducible refine Row5.drew ?_)))
  clear A4
  clear BW4
  clear hw5
  obtain ⟨Mc0, Mc1, Mc2, Mc3, Mc4⟩ := M5.parts
  obtain ⟨Mf0, Mf1, Mf2, Mf3, Mf4⟩ := M5.free
  go_wp2_with fail
  (with_reducible refine (K7.out _).mono ?_)
  rintro e w6 ⟨rfl, hb⟩
  have BW6 : Below w.heap.size w w6 := btr (by repeat (first | (with_reducible exact BW5) | (with_reducible refine bal ?_ _) | (with_reducible refine Below.drew ?_) | (with_reducible refine bdn ?_ _))) hb
  have A6 : Row5 w6 w.heap.size (.bool ga) (.int .u64 a0) (.int .u64 a1) (.int .u64 a2) (.int .u64 a3) := Row5.keep hb (by repeat (first | (with_reducible exact A5) | (with_reducible refine Row5.alloc ?_ _) | (with_reducible refine Row5.drew ?_)))
  have M6 : Row5 w6 w4.heap.size (.bool gm) (.int .u64 m0) (.int .u64 mm1) (.int .u64 m2) (.int .u64 m3) := Row5.keep hb (by repeat (first | (with_reducible exact M5) | (with_reducible refine Row5.alloc ?_ _) | (with_reducible refine Row5.drew ?_)))
  clear A5 M5
  clear BW5
  clear hb
  go_upto_region 11 with (fail)
  go_name_world w7 hw7
  have BW7 : Below w.heap.size w w7 := by rw [← hw7]; repeat (first | (with_reducible exact BW6) | (with_reducible refine bal ?_ _) | (with_reducible refine Below.drew ?_) | (with_reducible refine bdn ?_ _))
  have A7 : Row5 w7 w.heap.size (.bool ga) (.int .u64 a0) (.int .u64 a1) (.int .u64 a2) (.int .u64 a3) := by rw [← hw7]; exact (by repeat (first | (with_reducible exact A6) | (with_reducible refine Row5.alloc ?_ _) | (with_reducible refine Row5.drew ?_)))
  have M7 : Row5 w7 w4.heap.size (.bool gm) (.int .u64 m0) (.int .u64 mm1) (.int .u64 m2) (.int .u64 m3) := by rw [← hw7]; exact (by repeat (first | (with_reducible exact M6) | (with_reducible refine Row5.alloc ?_ _) | (with_reducible refine Row5.drew ?_)))
  have apC_A := A6.lt
  have apC_M := M6.lt
  have apC_0 := (BW6).size
  have C7 : Row5 w7 w6.heap.size (.bool ga) (.int .u64 a0) (.int .u64 a1) (.int .u64 a2) (.int .u64 a3) := by rw [← hw7]; exact (by repeat (first | (with_reducible exact Row5.new _ _ _ _ _ _) | ((with_reducible refine Row5.new' _ ?_ _ _ _ _ _); (simp; done)) | (with_reducible refine Row5.alloc ?_ _) | (with_reducible refine Row5.drew ?_)))
  clear A6 M6
  clear BW6
  clear hw7
  obtain ⟨Ac0, Ac1, Ac2, Ac3, Ac4⟩ := A7.parts
  obtain ⟨Af0, Af1, Af2, Af3, Af4⟩ := A7.free
  obtain ⟨Mc0, Mc1, Mc2, Mc3, Mc4⟩ := M7.parts
  obtain ⟨Mf0, Mf1, Mf2, Mf3, Mf4⟩ := M7.free
  obtain ⟨Cc0, Cc1, Cc2, Cc3, Cc4⟩ := C7.parts
  obtain ⟨Cf0, Cf1, Cf2, Cf3, Cf4⟩ := C7.free
  have hq := HQ.out
  go_wp2_with fail
  (with_reducible refine (K8.out _).mono ?_)
  rintro e w8 ⟨rfl, hb⟩
  have BW8 : Below w.heap.size w w8 := btr (by repeat (first | (with_reducible exact BW7) | (with_reducible refine bal ?_ _) | (with_reducible refine Below.drew ?_) | (with_reducible refine bdn ?_ _))) hb
  have A8 : Row5 w8 w.heap.size (.bool ga) (.int .u64 a0) (.int .u64 a1) (.int .u64 a2) (.int .u64 a3) := Row5.keep hb (by repeat (first | (with_reducible exact A7) | (with_reducible refine Row5.alloc ?_ _) | (with_reducible refine Row5.drew ?_)))
  have M8 : Row5 w8 w4.heap.size (.bool gm) (.int .u64 m0) (.int .u64 mm1) (.int .u64 m2) (.int .u64 m3) := Row5.keep hb (by repeat (first | (with_reducible exact M7) | (with_reducible refine Row5.alloc ?_ _) | (with_reducible refine Row5.drew ?_)))
  have C8 : Row5 w8 w6.heap.size (.bool ga) (.int .u64 a0) (.int .u64 a1) (.int .u64 a2) (.int .u64 a3) := Row5.keep hb (by repeat (first | (with_reducible exact C7) | (with_reducible refine Row5.alloc ?_ _) | (with_reducible refine Row5.drew ?_)))
  clear A7 M7 C7
  clear BW7
  clear hb
  obtain ⟨Mc0, Mc1, Mc2, Mc3, Mc4⟩ := M8.parts
  obtain ⟨Mf0, Mf1, Mf2, Mf3, Mf4⟩ := M8.free
  go_wp2_with fail
  (with_reducible refine (K9.out _).mono ?_)
  rintro e w9 ⟨rfl, hb⟩
  have BW9 : Below w.heap.size w w9 := btr (by repeat (first | (with_reducible exact BW8) | (with_reducible refine bal ?_ _) | (with_reducible refine Below.drew ?_) | (with_reducible refine bdn ?_ _))) hb
  have A9 : Row5 w9 w.heap.size (.bool ga) (.int .u64 a0) (.int .u64 a1) (.int .u64 a2) (.int .u64 a3) := Row5.keep hb (by repeat (first | (with_reducible exact A8) | (with_reducible refine Row5.alloc ?_ _) | (with_reducible refine Row5.drew ?_)))
  have M9 : Row5 w9 w4.heap.size (.bool gm) (.int .u64 m0) (.int .u64 mm1) (.int .u64 m2) (.int .u64 m3) := Row5.keep hb (by repeat (first | (with_reducible exact M8) | (with_reducible refine Row5.alloc ?_ _) | (with_reducible refine Row5.drew ?_)))
  have C9 : Row5 w9 w6.heap.size (.bool ga) (.int .u64 a0) (.int .u64 a1) (.int .u64 a2) (.int .u64 a3) := Row5.keep hb (by repeat (first | (with_reducible exact C8) | (with_reducible refine Row5.alloc ?_ _) | (with_reducible refine Row5.drew ?_)))
  clear A8 M8 C8
  clear BW8
  clear hb
  clear hq
  go_wp2_with fail
  refine (told2_true _ (tabs_on HT.out (by repeat (first | (with_reducible exact BW9) | (with_reducible refine bal ?_ _) | (with_reducible refine Below.drew ?_) | (with_reducible refine bdn ?_ _))))).mono ?_
  rintro e w10 ⟨rfl, hb⟩
  have BW10 : Below w.heap.size w w10 := btr (by repeat (first | (with_reducible exact BW9) | (with_reducible refine bal ?_ _) | (with_reducible refine Below.drew ?_) | (with_reducible refine bdn ?_ _))) hb
  have A10 : Row5 w10 w.heap.size (.bool ga) (.int .u64 a0) (.int .u64 a1) (.int .u64 a2) (.int .u64 a3) := Row5.keep hb (by repeat (first | (with_reducible exact A9) | (with_reducible refine Row5.alloc ?_ _) | (with_reducible refine Row5.drew ?_)))
  clear A9
  clear BW9
  clear hb
  obtain ⟨Ac0, Ac1, Ac2, Ac3, Ac4⟩ := A10.parts
  obtain ⟨Af0, Af1, Af2, Af3, Af4⟩ := A10.free
  go_wp2_with fail
  refine (K10.out _ (tb_on HT.out.2 (by repeat (first | (with_reducible exact BW10) | (with_reducible refine bal ?_ _) | (with_reducible refine Below.drew ?_) | (with_reducible refine bdn ?_ _))))).mono ?_
  rintro e w11 ⟨rfl, hb⟩
  have BW11 : Below w.heap.size w w11 := btr (by repeat (first | (with_reducible exact BW10) | (with_reducible refine bal ?_ _) | (with_reducible refine Below.drew ?_) | (with_reducible refine bdn ?_ _))) hb
  have A11 : Row5 w11 w.heap.size (.bool ga) (.int .u64 a0) (.int .u64 a1) (.int .u64 a2) (.int .u64 a3) := Row5.keep hb (by repeat (first | (with_reducible exact A10) | (with_reducible refine Row5.alloc ?_ _) | (with_reducible refine Row5.drew ?_)))
  clear A10
  clear BW10
  clear hb
  obtain ⟨Ac0, Ac1, Ac2, Ac3, Ac4⟩ := A11.parts
  obtain ⟨Af0, Af1, Af2, Af3, Af4⟩ := A11.free
  go_wp2_with fail
  refine (K11.out _ (tab_on HT.out.1 (by repeat (first | (with_reducible exact BW11) | (with_reducible refine bal ?_ _) | (with_reducible refine Below.drew ?_) | (with_reducible refine bdn ?_ _))))).mono ?_
  rintro e w12 ⟨rfl, hb⟩
  have BW12 : Below w.heap.size w w12 := btr (by repeat (first | (with_reducible exact BW11) | (with_reducible refine bal ?_ _) | (with_reducible refine Below.drew ?_) | (with_reducible refine bdn ?_ _))) hb
  have A12 : Row5 w12 w.heap.size (.bool ga) (.int .u64 a0) (.int .u64 a1) (.int .u64 a2) (.int .u64 a3) := Row5.keep hb (by repeat (first | (with_reducible exact A11) | (with_reducible refine Row5.alloc ?_ _) | (with_reducible refine Row5.drew ?_)))
  clear A11
  clear BW11
  clear hb
  go_wp2
  go_ret
  exact ⟨rfl, BW12⟩

theorem zstr_le {z : Int} (hz : z.natAbs < 2 ^ 256) : ((zstr z).size : Int) ≤ 79 := by
  have := dstr_le (x := z.natAbs) hz
  unfold zstr
  split
  · rw [ByteArray.size_append]
    show ((1 + _ : Nat) : Int) ≤ 79
    omega
  · omega
theorem exq_top : exq (2 ^ 256 - 1) = false := by decide +kernel
theorem eq5_self (z : Int) (hz : z.natAbs < 2 ^ 256) : eq5 (decide (z < 0)) (lb 0 z.natAbs) (lb 1 z.natAbs) (lb 2 z.natAbs) (lb 3 z.natAbs) (decide (z < 0)) (lb 0 z.natAbs) (lb 1 z.natAbs) (lb 2 z.natAbs) (lb 3 z.natAbs) = true := by
  rw [eq5_Iz z z hz hz]; exact decide_eq_true rfl
theorem next_yes (z : Int) (hz : z.natAbs < 2 ^ 256) (h : (z + 1).natAbs < 2 ^ 256) : ∀ W, Calls Tryd.prog 56 #[Iz z] W fun e w' => e = .returned (.tuple #[Iz (z + 1), .bool true]) ∧ Below W.heap.size W w' := fun W => by
  have := next_z z hz W
  rw [Znum_of h] at this
  exact this
theorem prev_yes (z : Int) (hz : z.natAbs < 2 ^ 256) (h : (z - 1).natAbs < 2 ^ 256) : ∀ W, Calls Tryd.prog 58 #[Iz z] W fun e w' => e = .returned (.tuple #[Iz (z - 1), .bool true]) ∧ Below W.heap.size W w' := fun W => by
  have := prev_z z hz W
  rw [Znum_of h] at this
  exact this
theorem cmp_is (y z : Int) (hy : y.natAbs < 2 ^ 256) (hz : z.natAbs < 2 ^ 256) (c : Int) (hc : cmpv y z = c) : ∀ W, Calls Tryd.prog 61 #[Iz y, Iz z] W fun e w' => e = .returned (.int .i64 c) ∧ Below W.heap.size W w' := fun W => by
  rw [← hc]; exact cmp_z y z hy hz W
theorem steps_any (g : Bool) (x : Nat) (hx : x < 2 ^ 256) (w : World) (hT : Tabs w) :
    Calls Tryd.prog 13 #[I5 g x] w fun e w' => e = .returned (.bool true) ∧ Below w.heap.size w w' := by
  rcases int_or g x with ⟨z, e, hn⟩ | ⟨rfl, rfl⟩
  · rw [e]
    have hz : z.natAbs < 2 ^ 256 := by omega
    have hpr : ∀ W, Tab W → Calls Tryd.prog 64 #[Iz z] W fun e w' => e = .returned (.string (zstr z)) ∧ Below W.heap.size W w' := fun W hW => wprint_z z hz W hW
    by_cases hp : (z + 1).natAbs < 2 ^ 256
    · have k2 := prev_yes (z + 1) hp (by omega)
      rw [show z + 1 - 1 = z from by omega] at k2
      have k3 := cmp_is (z + 1) z hp hz 1 (by unfold cmpv; rw [if_neg (by omega), if_neg (by omega)])
      have k4 := cmp_is z (z + 1) hz hp (-1) (by unfold cmpv; rw [if_pos (by omega)])
      by_cases hr : (z - 1).natAbs < 2 ^ 256
      · have k7 := next_yes (z - 1) hr (by omega)
        rw [show z - 1 + 1 = z from by omega] at k7
        have k8 := cmp_is (z - 1) z hr hz (-1) (by unfold cmpv; rw [if_pos (by omega)])
        exact steps_tt _ _ _ _ _ _ _ _ _ _ _ _ _ _ _ (zstr z) (zstr_le hz) (eq5_self z hz) (may_z z hz) (next_yes z hz hp) (prev_yes z hz hr) hpr k2 k3 k4 (may_z _ hp) k7 k8 (may_z _ hr) w hT
      · have k6 : ∀ W, Calls Tryd.prog 58 #[Iz z] W fun e w' => e = .returned (.tuple #[Z5, .bool false]) ∧ Below W.heap.size W w' := fun W => by
          have := prev_z z hz W
          rw [Znum_Z5 hr] at this
          exact this
        exact steps_tf _ _ _ _ _ _ _ _ _ _ _ _ _ _ _ (zstr z) (zstr_le hz) (eq5_self z hz) (may_z z hz) (next_yes z hz hp) k6 hpr k2 k3 k4 (may_z _ hp) w hT
    · have k1 : ∀ W, Calls Tryd.prog 56 #[Iz z] W fun e w' => e = .returned (.tuple #[Z5, .bool false]) ∧ Below W.heap.size W w' := fun W => by
        have := next_z z hz W
        rw [Znum_Z5 hp] at this
        exact this
      have hr : (z - 1).natAbs < 2 ^ 256 := by omega
      have k7 := next_yes (z - 1) hr (by omega)
      rw [show z - 1 + 1 = z from by omega] at k7
      have k8 := cmp_is (z - 1) z hr hz (-1) (by unfold cmpv; rw [if_pos (by omega)])
      have k10 : ∀ W, Tb W → Calls Tryd.prog 71 #[Iz z] W fun e w' => e = .returned (.bool false) ∧ Below W.heap.size W w' := fun W hW => by
        have := exact_z z hz W hW
        rw [show z.natAbs = 2 ^ 256 - 1 from by omega, exq_top] at this
        exact this
      exact steps_ft _ _ _ _ _ _ _ _ _ _ _ _ _ _ _ (zstr z) (zstr_le hz) (eq5_self z hz) (may_z z hz) k1 (prev_yes z hz hr) hpr k10 k7 k8 (may_z _ hr) w hT
  · exact steps_no _ _ _ _ _ (fun W => may_no W) (fun W => wprint_bad W) w hT

end Go.Proofs.YtbegblkfdnaloaaDoor
