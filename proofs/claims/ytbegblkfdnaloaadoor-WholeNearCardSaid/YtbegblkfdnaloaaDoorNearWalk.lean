/-
  entrepotlaw2.WholeNear: the walk: it answers true for all whole numbers; what its callees answer is a premise. The tables math/bits.deBruijn64tab, internal/strconv.uint64pow10 read as their initialisers lay them.
-/
import Derived.Test.YtbegblkfdnaloaaDoorWholeJ
namespace Go.Proofs.YtbegblkfdnaloaaDoor
open Go.RowKit Go.Shelf
attribute [local go_sem ↓] eql_nat neq_nat eql_int5 neq_int5

set_option maxHeartbeats 20000000 in
set_option maxRecDepth 100000 in
theorem near_no0 (ga gb : Bool) (a0 a1 a2 a3 b0 b1 b2 b3 : Int)
    (m0 : ∀ W, Calls Tryd.prog 46 #[.agg #[.bool ga, .int .u64 a0, .int .u64 a1, .int .u64 a2, .int .u64 a3]] W fun e w' => e = .returned (.bool false) ∧ Below W.heap.size W w') (w : World) (hT : Tabs w) :
    Calls Tryd.prog 12 #[.agg #[.bool ga, .int .u64 a0, .int .u64 a1, .int .u64 a2, .int .u64 a3], .agg #[.bool gb, .int .u64 b0, .int .u64 b1, .int .u64 b2, .int .u64 b3]] w fun e w' => e = .returned (.bool true) ∧ Below w.heap.size w w' := by
  have M0 := Lib.hid m0; clear m0
  have HT := Lib.hid hT; clear hT
  go_enter Tryd.func12, Tryd.ntmps12
  go_wp2_with fail
  (with_reducible refine (M0.out _).mono ?_)
  rintro e w1 ⟨rfl, hb⟩
  have BW1 : Below w.heap.size w w1 := btr (by repeat (first | (with_reducible exact Below.refl _ _) | (with_reducible refine bal ?_ _) | (with_reducible refine Below.drew ?_) | (with_reducible refine bdn ?_ _))) hb
  have A1 : Row5 w1 w.heap.size (.bool ga) (.int .u64 a0) (.int .u64 a1) (.int .u64 a2) (.int .u64 a3) := Row5.keep hb (by repeat (first | (with_reducible exact Row5.new _ _ _ _ _ _) | ((with_reducible refine Row5.new' _ ?_ _ _ _ _ _); (simp; done)) | (with_reducible refine Row5.alloc ?_ _) | (with_reducible refine Row5.drew ?_)))
  have B1 : Row5 w1 (w.heap.size + 1) (.bool gb) (.int .u64 b0) (.int .u64 b1) (.int .u64 b2) (.int .u64 b3) := Row5.keep hb (by repeat (first | (with_reducible exact Row5.new _ _ _ _ _ _) | ((with_reducible refine Row5.new' _ ?_ _ _ _ _ _); (simp; done)) | (with_reducible refine Row5.alloc ?_ _) | (with_reducible refine Row5.drew ?_)))
  clear hb
  go_wp2_with fail
  refine (told2_true _ (tabs_on HT.out (by repeat (first | (with_reducible exact BW1) | (with_reducible refine bal ?_ _) | (with_reducible refine Below.drew ?_) | (with_reducible refine bdn ?_ _))))).mono ?_
  rintro e w2 ⟨rfl, hb⟩
  have BW2 : Below w.heap.size w w2 := btr (by repeat (first | (with_reducible exact BW1) | (with_reducible refine bal ?_ _) | (with_reducible refine Below.drew ?_) | (with_reducible refine bdn ?_ _))) hb
  have A2 : Row5 w2 w.heap.size (.bool ga) (.int .u64 a0) (.int .u64 a1) (.int .u64 a2) (.int .u64 a3) := Row5.keep hb (by repeat (first | (with_reducible exact A1) | (with_reducible refine Row5.alloc ?_ _) | (with_reducible refine Row5.drew ?_)))
  have B2 : Row5 w2 (w.heap.size + 1) (.bool gb) (.int .u64 b0) (.int .u64 b1) (.int .u64 b2) (.int .u64 b3) := Row5.keep hb (by repeat (first | (with_reducible exact B1) | (with_reducible refine Row5.alloc ?_ _) | (with_reducible refine Row5.drew ?_)))
  clear A1 B1
  clear BW1
  clear hb
  go_wp2
  go_ret
  exact ⟨rfl, BW2⟩

set_option maxHeartbeats 20000000 in
set_option maxRecDepth 100000 in
theorem near_no1 (ga gb : Bool) (a0 a1 a2 a3 b0 b1 b2 b3 : Int)
    (m0 : ∀ W, Calls Tryd.prog 46 #[.agg #[.bool ga, .int .u64 a0, .int .u64 a1, .int .u64 a2, .int .u64 a3]] W fun e w' => e = .returned (.bool true) ∧ Below W.heap.size W w')
    (m1 : ∀ W, Calls Tryd.prog 46 #[.agg #[.bool gb, .int .u64 b0, .int .u64 b1, .int .u64 b2, .int .u64 b3]] W fun e w' => e = .returned (.bool false) ∧ Below W.heap.size W w') (w : World) (hT : Tabs w) :
    Calls Tryd.prog 12 #[.agg #[.bool ga, .int .u64 a0, .int .u64 a1, .int .u64 a2, .int .u64 a3], .agg #[.bool gb, .int .u64 b0, .int .u64 b1, .int .u64 b2, .int .u64 b3]] w fun e w' => e = .returned (.bool true) ∧ Below w.heap.size w w' := by
  have M0 := Lib.hid m0; clear m0
  have M1 := Lib.hid m1; clear m1
  have HT := Lib.hid hT; clear hT
  go_enter Tryd.func12, Tryd.ntmps12
  go_wp2_with fail
  (with_reducible refine (M0.out _).mono ?_)
  rintro e w1 ⟨rfl, hb⟩
  have BW1 : Below w.heap.size w w1 := btr (by repeat (first | (with_reducible exact Below.refl _ _) | (with_reducible refine bal ?_ _) | (with_reducible refine Below.drew ?_) | (with_reducible refine bdn ?_ _))) hb
  have A1 : Row5 w1 w.heap.size (.bool ga) (.int .u64 a0) (.int .u64 a1) (.int .u64 a2) (.int .u64 a3) := Row5.keep hb (by repeat (first | (with_reducible exact Row5.new _ _ _ _ _ _) | ((with_reducible refine Row5.new' _ ?_ _ _ _ _ _); (simp; done)) | (with_reducible refine Row5.alloc ?_ _) | (with_reducible refine Row5.drew ?_)))
  have B1 : Row5 w1 (w.heap.size + 1) (.bool gb) (.int .u64 b0) (.int .u64 b1) (.int .u64 b2) (.int .u64 b3) := Row5.keep hb (by repeat (first | (with_reducible exact Row5.new _ _ _ _ _ _) | ((with_reducible refine Row5.new' _ ?_ _ _ _ _ _); (simp; done)) | (with_reducible refine Row5.alloc ?_ _) | (with_reducible refine Row5.drew ?_)))
  clear hb
  obtain ⟨Bc0, Bc1, Bc2, Bc3, Bc4⟩ := B1.parts
  obtain ⟨Bf0, Bf1, Bf2, Bf3, Bf4⟩ := B1.free
  go_wp2_with fail
  (with_reducible refine (M1.out _).mono ?_)
  rintro e w2 ⟨rfl, hb⟩
  have BW2 : Below w.heap.size w w2 := btr (by repeat (first | (with_reducible exact BW1) | (with_reducible refine bal ?_ _) | (with_reducible refine Below.drew ?_) | (with_reducible refine bdn ?_ _))) hb
  have A2 : Row5 w2 w.heap.size (.bool ga) (.int .u64 a0) (.int .u64 a1) (.int .u64 a2) (.int .u64 a3) := Row5.keep hb (by repeat (first | (with_reducible exact A1) | (with_reducible refine Row5.alloc ?_ _) | (with_reducible refine Row5.drew ?_)))
  have B2 : Row5 w2 (w.heap.size + 1) (.bool gb) (.int .u64 b0) (.int .u64 b1) (.int .u64 b2) (.int .u64 b3) := Row5.keep hb (by repeat (first | (with_reducible exact B1) | (with_reducible refine Row5.alloc ?_ _) | (with_reducible refine Row5.drew ?_)))
  clear A1 B1
  clear BW1
  clear hb
  go_wp2_with fail
  refine (told2_true _ (tabs_on HT.out (by repeat (first | (with_reducible exact BW2) | (with_reducible refine bal ?_ _) | (with_reducible refine Below.drew ?_) | (with_reducible refine bdn ?_ _))))).mono ?_
  rintro e w3 ⟨rfl, hb⟩
  have BW3 : Below w.heap.size w w3 := btr (by repeat (first | (with_reducible exact BW2) | (with_reducible refine bal ?_ _) | (with_reducible refine Below.drew ?_) | (with_reducible refine bdn ?_ _))) hb
  have A3 : Row5 w3 w.heap.size (.bool ga) (.int .u64 a0) (.int .u64 a1) (.int .u64 a2) (.int .u64 a3) := Row5.keep hb (by repeat (first | (with_reducible exact A2) | (with_reducible refine Row5.alloc ?_ _) | (with_reducible refine Row5.drew ?_)))
  have B3 : Row5 w3 (w.heap.size + 1) (.bool gb) (.int .u64 b0) (.int .u64 b1) (.int .u64 b2) (.int .u64 b3) := Row5.keep hb (by repeat (first | (with_reducible exact B2) | (with_reducible refine Row5.alloc ?_ _) | (with_reducible refine Row5.drew ?_)))
  clear A2 B2
  clear BW2
  clear hb
  go_wp2
  go_ret
  exact ⟨rfl, BW3⟩

set_option maxHeartbeats 20000000 in
set_option maxRecDepth 100000 in
theorem near_tt (ex : Bool) (ga gb gu gd gh go : Bool) (a0 a1 a2 a3 b0 b1 b2 b3 u0 u1 u2 u3 d0 d1 d2 d3 h0 h1 h2 h3 o0 o1 o2 o3 c ch co cha coa cu cua cd cda : Int) (hc : c = -1 ∨ c = 0 ∨ c = 1)
    (f1 : ex = true → 0 ≤ c → cu ≤ 0) (f2 : ex = true → c ≤ 0 → 0 ≤ cd) (f3 : ex = false → 0 ≤ c → ch ≤ 0) (f4 : ex = false → c ≤ 0 → 0 ≤ co)
    (i1 : 0 ≤ cua) (i2 : cda ≤ 0) (i3 : 0 ≤ cha) (i4 : coa ≤ 0)
    (m0 : ∀ W, Calls Tryd.prog 46 #[.agg #[.bool ga, .int .u64 a0, .int .u64 a1, .int .u64 a2, .int .u64 a3]] W fun e w' => e = .returned (.bool true) ∧ Below W.heap.size W w')
    (m1 : ∀ W, Calls Tryd.prog 46 #[.agg #[.bool gb, .int .u64 b0, .int .u64 b1, .int .u64 b2, .int .u64 b3]] W fun e w' => e = .returned (.bool true) ∧ Below W.heap.size W w')
    (k1 : ∀ W, Tb W → Calls Tryd.prog 66 #[.agg #[.bool ga, .int .u64 a0, .int .u64 a1, .int .u64 a2, .int .u64 a3]] W fun e w' => e = .returned (.tuple #[.agg #[.bool gu, .int .u64 u0, .int .u64 u1, .int .u64 u2, .int .u64 u3], .bool true]) ∧ Below W.heap.size W w')
    (k2 : ∀ W, Tb W → Calls Tryd.prog 68 #[.agg #[.bool ga, .int .u64 a0, .int .u64 a1, .int .u64 a2, .int .u64 a3]] W fun e w' => e = .returned (.tuple #[.agg #[.bool gd, .int .u64 d0, .int .u64 d1, .int .u64 d2, .int .u64 d3], .bool true]) ∧ Below W.heap.size W w')
    (k3 : ∀ W, Tb W → Calls Tryd.prog 69 #[.agg #[.bool ga, .int .u64 a0, .int .u64 a1, .int .u64 a2, .int .u64 a3]] W fun e w' => e = .returned (.tuple #[.agg #[.bool gh, .int .u64 h0, .int .u64 h1, .int .u64 h2, .int .u64 h3], .bool true]) ∧ Below W.heap.size W w')
    (k4 : ∀ W, Tb W → Calls Tryd.prog 70 #[.agg #[.bool ga, .int .u64 a0, .int .u64 a1, .int .u64 a2, .int .u64 a3]] W fun e w' => e = .returned (.tuple #[.agg #[.bool go, .int .u64 o0, .int .u64 o1, .int .u64 o2, .int .u64 o3], .bool true]) ∧ Below W.heap.size W w')
    (k5 : ∀ W, Tb W → Calls Tryd.prog 71 #[.agg #[.bool gb, .int .u64 b0, .int .u64 b1, .int .u64 b2, .int .u64 b3]] W fun e w' => e = .returned (.bool ex) ∧ Below W.heap.size W w')
    (k6 : ∀ W, Calls Tryd.prog 61 #[.agg #[.bool gb, .int .u64 b0, .int .u64 b1, .int .u64 b2, .int .u64 b3], .agg #[.bool ga, .int .u64 a0, .int .u64 a1, .int .u64 a2, .int .u64 a3]] W fun e w' => e = .returned (.int .i64 c) ∧ Below W.heap.size W w')
    (k9 : ∀ W, Calls Tryd.prog 61 #[.agg #[.bool gh, .int .u64 h0, .int .u64 h1, .int .u64 h2, .int .u64 h3], .agg #[.bool gb, .int .u64 b0, .int .u64 b1, .int .u64 b2, .int .u64 b3]] W fun e w' => e = .returned (.int .i64 ch) ∧ Below W.heap.size W w')
    (k10 : ∀ W, Calls Tryd.prog 61 #[.agg #[.bool go, .int .u64 o0, .int .u64 o1, .int .u64 o2, .int .u64 o3], .agg #[.bool gb, .int .u64 b0, .int .u64 b1, .int .u64 b2, .int .u64 b3]] W fun e w' => e = .returned (.int .i64 co) ∧ Below W.heap.size W w')
    (k13 : ∀ W, Tb W → Calls Tryd.prog 71 #[.agg #[.bool gh, .int .u64 h0, .int .u64 h1, .int .u64 h2, .int .u64 h3]] W fun e w' => e = .returned (.bool false) ∧ Below W.heap.size W w')
    (k14 : ∀ W, Calls Tryd.prog 61 #[.agg #[.bool gh, .int .u64 h0, .int .u64 h1, .int .u64 h2, .int .u64 h3], .agg #[.bool ga, .int .u64 a0, .int .u64 a1, .int .u64 a2, .int .u64 a3]] W fun e w' => e = .returned (.int .i64 cha) ∧ Below W.heap.size W w')
    (k15 : ∀ W, Tb W → Calls Tryd.prog 71 #[.agg #[.bool go, .int .u64 o0, .int .u64 o1, .int .u64 o2, .int .u64 o3]] W fun e w' => e = .returned (.bool false) ∧ Below W.heap.size W w')
    (k16 : ∀ W, Calls Tryd.prog 61 #[.agg #[.bool go, .int .u64 o0, .int .u64 o1, .int .u64 o2, .int .u64 o3], .agg #[.bool ga, .int .u64 a0, .int .u64 a1, .int .u64 a2, .int .u64 a3]] W fun e w' => e = .returned (.int .i64 coa) ∧ Below W.heap.size W w')
    (k7 : ∀ W, Calls Tryd.prog 61 #[.agg #[.bool gu, .int .u64 u0, .int .u64 u1, .int .u64 u2, .int .u64 u3], .agg #[.bool gb, .int .u64 b0, .int .u64 b1, .int .u64 b2, .int .u64 b3]] W fun e w' => e = .returned (.int .i64 cu) ∧ Below W.heap.size W w')
    (k11 : ∀ W, Tb W → Calls Tryd.prog 71 #[.agg #[.bool gu, .int .u64 u0, .int .u64 u1, .int .u64 u2, .int .u64 u3]] W fun e w' => e = .returned (.bool true) ∧ Below W.heap.size W w')
    (k12 : ∀ W, Calls Tryd.prog 61 #[.agg #[.bool gu, .int .u64 u0, .int .u64 u1, .int .u64 u2, .int .u64 u3], .agg #[.bool ga, .int .u64 a0, .int .u64 a1, .int .u64 a2, .int .u64 a3]] W fun e w' => e = .returned (.int .i64 cua) ∧ Below W.heap.size W w')
    (k8 : ∀ W, Calls Tryd.prog 61 #[.agg #[.bool gd, .int .u64 d0, .int .u64 d1, .int .u64 d2, .int .u64 d3], .agg #[.bool gb, .int .u64 b0, .int .u64 b1, .int .u64 b2, .int .u64 b3]] W fun e w' => e = .returned (.int .i64 cd) ∧ Below W.heap.size W w')
    (k17 : ∀ W, Tb W → Calls Tryd.prog 71 #[.agg #[.bool gd, .int .u64 d0, .int .u64 d1, .int .u64 d2, .int .u64 d3]] W fun e w' => e = .returned (.bool true) ∧ Below W.heap.size W w')
    (k18 : ∀ W, Calls Tryd.prog 61 #[.agg #[.bool gd, .int .u64 d0, .int .u64 d1, .int .u64 d2, .int .u64 d3], .agg #[.bool ga, .int .u64 a0, .int .u64 a1, .int .u64 a2, .int .u64 a3]] W fun e w' => e = .returned (.int .i64 cda) ∧ Below W.heap.size W w') (w : World) (hT : Tabs w) :
    Calls Tryd.prog 12 #[.agg #[.bool ga, .int .u64 a0, .int .u64 a1, .int .u64 a2, .int .u64 a3], .agg #[.bool gb, .int .u64 b0, .int .u64 b1, .int .u64 b2, .int .u64 b3]] w fun e w' => e = .returned (.bool true) ∧ Below w.heap.size w w' := by
  have M0 := Lib.hid m0; clear m0
  have M1 := Lib.hid m1; clear m1
  have K1 := Lib.hid k1; clear k1
  have K2 := Lib.hid k2; clear k2
  have K3 := Lib.hid k3; clear k3
  have K4 := Lib.hid k4; clear k4
  have K5 := Lib.hid k5; clear k5
  have K6 := Lib.hid k6; clear k6
  have K9 := Lib.hid k9; clear k9
  have K10 := Lib.hid k10; clear k10
  have K13 := Lib.hid k13; clear k13
  have K14 := Lib.hid k14; clear k14
  have K15 := Lib.hid k15; clear k15
  have K16 := Lib.hid k16; clear k16
  have K7 := Lib.hid k7; clear k7
  have K11 := Lib.hid k11; clear k11
  have K12 := Lib.hid k12; clear k12
  have K8 := Lib.hid k8; clear k8
  have K17 := Lib.hid k17; clear k17
  have K18 := Lib.hid k18; clear k18
  have HC := Lib.hid hc; clear hc
  have F1 := Lib.hid f1; clear f1
  have F2 := Lib.hid f2; clear f2
  have F3 := Lib.hid f3; clear f3
  have F4 := Lib.hid f4; clear f4
  have HT := Lib.hid hT; clear hT
  go_enter Tryd.func12, Tryd.ntmps12
  go_wp2_with fail
  (with_reducible refine (M0.out _).mono ?_)
  rintro e w1 ⟨rfl, hb⟩
  have BW1 : Below w.heap.size w w1 := btr (by repeat (first | (with_reducible exact Below.refl _ _) | (with_reducible refine bal ?_ _) | (with_reducible refine Below.drew ?_) | (with_reducible refine bdn ?_ _))) hb
  have A1 : Row5 w1 w.heap.size (.bool ga) (.int .u64 a0) (.int .u64 a1) (.int .u64 a2) (.int .u64 a3) := Row5.keep hb (by repeat (first | (with_reducible exact Row5.new _ _ _ _ _ _) | ((with_reducible refine Row5.new' _ ?_ _ _ _ _ _); (simp; done)) | (with_reducible refine Row5.alloc ?_ _) | (with_reducible refine Row5.drew ?_)))
  have B1 : Row5 w1 (w.heap.size + 1) (.bool gb) (.int .u64 b0) (.int .u64 b1) (.int .u64 b2) (.int .u64 b3) := Row5.keep hb (by repeat (first | (with_reducible exact Row5.new _ _ _ _ _ _) | ((with_reducible refine Row5.new' _ ?_ _ _ _ _ _); (simp; done)) | (with_reducible refine Row5.alloc ?_ _) | (with_reducible refine Row5.drew ?_)))
  clear hb
  obtain ⟨Bc0, Bc1, Bc2, Bc3, Bc4⟩ := B1.parts
  obtain ⟨Bf0, Bf1, Bf2, Bf3, Bf4⟩ := B1.free
  go_wp2_with fail
  (with_reducible refine (M1.out _).mono ?_)
  rintro e w2 ⟨rfl, hb⟩
  have BW2 : Below w.heap.size w w2 := btr (by repeat (first | (with_reducible exact BW1) | (with_reducible refine bal ?_ _) | (with_reducible refine Below.drew ?_) | (with_reducible refine bdn ?_ _))) hb
  have A2 : Row5 w2 w.heap.size (.bool ga) (.int .u64 a0) (.int .u64 a1) (.int .u64 a2) (.int .u64 a3) := Row5.keep hb (by repeat (first | (with_reducible exact A1) | (with_reducible refine Row5.alloc ?_ _) | (with_reducible refine Row5.drew ?_)))
  have B2 : Row5 w2 (w.heap.size + 1) (.bool gb) (.int .u64 b0) (.int .u64 b1) (.int .u64 b2) (.int .u64 b3) := Row5.keep hb (by repeat (first | (with_reducible exact B1) | (with_reducible refine Row5.alloc ?_ _) | (with_reducible refine Row5.drew ?_)))
  clear A1 B1
  clear BW1
  clear hb
  obtain ⟨Ac0, Ac1, Ac2, Ac3, Ac4⟩ := A2.parts
  obtain ⟨Af0, Af1, Af2, Af3, Af4⟩ := A2.free
  go_wp2_with fail
  refine (K1.out _ (tb_on HT.out.2 (by repeat (first | (with_reducible exact BW2) | (with_reducible refine bal ?_ _) | (with_reducible refine Below.drew ?_) | (with_reducible refine bdn ?_ _))))).mono ?_
  rintro e w3 ⟨rfl, hb⟩
  have BW3 : Below w.heap.size w w3 := btr (by repeat (first | (with_reducible exact BW2) | (with_reducible refine bal ?_ _) | (with_reducible refine Below.drew ?_) | (with_reducible refine bdn ?_ _))) hb
  have A3 : Row5 w3 w.heap.size (.bool ga) (.int .u64 a0) (.int .u64 a1) (.int .u64 a2) (.int .u64 a3) := Row5.keep hb (by repeat (first | (with_reducible exact A2) | (with_reducible refine Row5.alloc ?_ _) | (with_reducible refine Row5.drew ?_)))
  have B3 : Row5 w3 (w.heap.size + 1) (.bool gb) (.int .u64 b0) (.int .u64 b1) (.int .u64 b2) (.int .u64 b3) := Row5.keep hb (by repeat (first | (with_reducible exact B2) | (with_reducible refine Row5.alloc ?_ _) | (with_reducible refine Row5.drew ?_)))
  clear A2 B2
  clear BW2
  clear hb
  go_upto_region 4 with (fail)
  go_name_world w4 hw4
  have BW4 : Below w.heap.size w w4 := by rw [← hw4]; repeat (first | (with_reducible exact BW3) | (with_reducible refine bal ?_ _) | (with_reducible refine Below.drew ?_) | (with_reducible refine bdn ?_ _))
  have A4 : Row5 w4 w.heap.size (.bool ga) (.int .u64 a0) (.int .u64 a1) (.int .u64 a2) (.int .u64 a3) := by rw [← hw4]; exact (by repeat (first | (with_reducible exact A3) | (with_reducible refine Row5.alloc ?_ _) | (with_reducible refine Row5.drew ?_)))
  have B4 : Row5 w4 (w.heap.size + 1) (.bool gb) (.int .u64 b0) (.int .u64 b1) (.int .u64 b2) (.int .u64 b3) := by rw [← hw4]; exact (by repeat (first | (with_reducible exact B3) | (with_reducible refine Row5.alloc ?_ _) | (with_reducible refine Row5.drew ?_)))
  have apU_A := A3.lt
  have apU_B := B3.lt
  have apU_0 := (BW3).size
  have U4 : Row5 w4 w3.heap.size (.bool gu) (.int .u64 u0) (.int .u64 u1) (.int .u64 u2) (.int .u64 u3) := by rw [← hw4]; exact (by repeat (first | (with_reducible exact Row5.new _ _ _ _ _ _) | ((with_reducible refine Row5.new' _ ?_ _ _ _ _ _); (simp; done)) | (with_reducible refine Row5.alloc ?_ _) | (with_reducible refine Row5.drew ?_)))
  clear A3 B3
  clear BW3
  clear hw4
  obtain ⟨Ac0, Ac1, Ac2, Ac3, Ac4⟩ := A4.parts
  obtain ⟨Af0, Af1, Af2, Af3, Af4⟩ := A4.free
  go_wp2_with fail
  refine (K2.out _ (tb_on HT.out.2 (by repeat (first | (with_reducible exact BW4) | (with_reducible refine bal ?_ _) | (with_reducible refine Below.drew ?_) | (with_reducible refine bdn ?_ _))))).mono ?_
  rintro e w5 ⟨rfl, hb⟩
  have BW5 : Below w.heap.size w w5 := btr (by repeat (first | (with_reducible exact BW4) | (with_reducible refine bal ?_ _) | (with_reducible refine Below.drew ?_) | (with_reducible refine bdn ?_ _))) hb
  have A5 : Row5 w5 w.heap.size (.bool ga) (.int .u64 a0) (.int .u64 a1) (.int .u64 a2) (.int .u64 a3) := Row5.keep hb (by repeat (first | (with_reducible exact A4) | (with_reducible refine Row5.alloc ?_ _) | (with_reducible refine Row5.drew ?_)))
  have B5 : Row5 w5 (w.heap.size + 1) (.bool gb) (.int .u64 b0) (.int .u64 b1) (.int .u64 b2) (.int .u64 b3) := Row5.keep hb (by repeat (first | (with_reducible exact B4) | (with_reducible refine Row5.alloc ?_ _) | (with_reducible refine Row5.drew ?_)))
  have U5 : Row5 w5 w3.heap.size (.bool gu) (.int .u64 u0) (.int .u64 u1) (.int .u64 u2) (.int .u64 u3) := Row5.keep hb (by repeat (first | (with_reducible exact U4) | (with_reducible refine Row5.alloc ?_ _) | (with_reducible refine Row5.drew ?_)))
  clear A4 B4 U4
  clear BW4
  clear hb
  go_upto_region 5 with (fail)
  go_name_world w6 hw6
  have BW6 : Below w.heap.size w w6 := by rw [← hw6]; repeat (first | (with_reducible exact BW5) | (with_reducible refine bal ?_ _) | (with_reducible refine Below.drew ?_) | (with_reducible refine bdn ?_ _))
  have A6 : Row5 w6 w.heap.size (.bool ga) (.int .u64 a0) (.int .u64 a1) (.int .u64 a2) (.int .u64 a3) := by rw [← hw6]; exact (by repeat (first | (with_reducible exact A5) | (with_reducible refine Row5.alloc ?_ _) | (with_reducible refine Row5.drew ?_)))
  have B6 : Row5 w6 (w.heap.size + 1) (.bool gb) (.int .u64 b0) (.int .u64 b1) (.int .u64 b2) (.int .u64 b3) := by rw [← hw6]; exact (by repeat (first | (with_reducible exact B5) | (with_reducible refine Row5.alloc ?_ _) | (with_reducible refine Row5.drew ?_)))
  have U6 : Row5 w6 w3.heap.size (.bool gu) (.int .u64 u0) (.int .u64 u1) (.int .u64 u2) (.int .u64 u3) := by rw [← hw6]; exact (by repeat (first | (with_reducible exact U5) | (with_reducible refine Row5.alloc ?_ _) | (with_reducible refine Row5.drew ?_)))
  have apD_A := A5.lt
  have apD_B := B5.lt
  have apD_U := U5.lt
  have apD_0 := (BW5).size
  have D6 : Row5 w6 w5.heap.size (.bool gd) (.int .u64 d0) (.int .u64 d1) (.int .u64 d2) (.int .u64 d3) := by rw [← hw6]; exact (by repeat (first | (with_reducible exact Row5.new _ _ _ _ _ _) | ((with_reducible refine Row5.new' _ ?_ _ _ _ _ _); (simp; done)) | (with_reducible refine Row5.alloc ?_ _) | (with_reducible refine Row5.drew ?_)))
  clear A5 B5 U5
  clear BW5
  clear hw6
  obtain ⟨Ac0, Ac1, Ac2, Ac3, Ac4⟩ := A6.parts
  obtain ⟨Af0, Af1, Af2, Af3, Af4⟩ := A6.free
  go_wp2_with fail
  refine (K3.out _ (tb_on HT.out.2 (by repeat (first | (with_reducible exact BW6) | (with_reducible refine bal ?_ _) | (with_reducible refine Below.drew ?_) | (with_reducible refine bdn ?_ _))))).mono ?_
  rintro e w7 ⟨rfl, hb⟩
  have BW7 : Below w.heap.size w w7 := btr (by repeat (first | (with_reducible exact BW6) | (with_reducible refine bal ?_ _) | (with_reducible refine Below.drew ?_) | (with_reducible refine bdn ?_ _))) hb
  have A7 : Row5 w7 w.heap.size (.bool ga) (.int .u64 a0) (.int .u64 a1) (.int .u64 a2) (.int .u64 a3) := Row5.keep hb (by repeat (first | (with_reducible exact A6) | (with_reducible refine Row5.alloc ?_ _) | (with_reducible refine Row5.drew ?_)))
  have B7 : Row5 w7 (w.heap.size + 1) (.bool gb) (.int .u64 b0) (.int .u64 b1) (.int .u64 b2) (.int .u64 b3) := Row5.keep hb (by repeat (first | (with_reducible exact B6) | (with_reducible refine Row5.alloc ?_ _) | (with_reducible refine Row5.drew ?_)))
  have U7 : Row5 w7 w3.heap.size (.bool gu) (.int .u64 u0) (.int .u64 u1) (.int .u64 u2) (.int .u64 u3) := Row5.keep hb (by repeat (first | (with_reducible exact U6) | (with_reducible refine Row5.alloc ?_ _) | (with_reducible refine Row5.drew ?_)))
  have D7 : Row5 w7 w5.heap.size (.bool gd) (.int .u64 d0) (.int .u64 d1) (.int .u64 d2) (.int .u64 d3) := Row5.keep hb (by repeat (first | (with_reducible exact D6) | (with_reducible refine Row5.alloc ?_ _) | (with_reducible refine Row5.drew ?_)))
  clear A6 B6 U6 D6
  clear BW6
  clear hb
  go_upto_region 6 with (fail)
  go_name_world w8 hw8
  have BW8 : Below w.heap.size w w8 := by rw [← hw8]; repeat (first | (with_reducible exact BW7) | (with_reducible refine bal ?_ _) | (with_reducible refine Below.drew ?_) | (with_reducible refine bdn ?_ _))
  have A8 : Row5 w8 w.heap.size (.bool ga) (.int .u64 a0) (.int .u64 a1) (.int .u64 a2) (.int .u64 a3) := by rw [← hw8]; exact (by repeat (first | (with_reducible exact A7) | (with_reducible refine Row5.alloc ?_ _) | (with_reducible refine Row5.drew ?_)))
  have B8 : Row5 w8 (w.heap.size + 1) (.bool gb) (.int .u64 b0) (.int .u64 b1) (.int .u64 b2) (.int .u64 b3) := by rw [← hw8]; exact (by repeat (first | (with_reducible exact B7) | (with_reducible refine Row5.alloc ?_ _) | (with_reducible refine Row5.drew ?_)))
  have U8 : Row5 w8 w3.heap.size (.bool gu) (.int .u64 u0) (.int .u64 u1) (.int .u64 u2) (.int .u64 u3) := by rw [← hw8]; exact (by repeat (first | (with_reducible exact U7) | (with_reducible refine Row5.alloc ?_ _) | (with_reducible refine Row5.drew ?_)))
  have D8 : Row5 w8 w5.heap.size (.bool gd) (.int .u64 d0) (.int .u64 d1) (.int .u64 d2) (.int .u64 d3) := by rw [← hw8]; exact (by repeat (first | (with_reducible exact D7) | (with_reducible refine Row5.alloc ?_ _) | (with_reducible refine Row5.drew ?_)))
  have apH_A := A7.lt
  have apH_B := B7.lt
  have apH_U := U7.lt
  have apH_D := D7.lt
  have apH_0 := (BW7).size
  have H8 : Row5 w8 w7.heap.size (.bool gh) (.int .u64 h0) (.int .u64 h1) (.int .u64 h2) (.int .u64 h3) := by rw [← hw8]; exact (by repeat (first | (with_reducible exact Row5.new _ _ _ _ _ _) | ((with_reducible refine Row5.new' _ ?_ _ _ _ _ _); (simp; done)) | (with_reducible refine Row5.alloc ?_ _) | (with_reducible refine Row5.drew ?_)))
  clear A7 B7 U7 D7
  clear BW7
  clear hw8
  obtain ⟨Ac0, Ac1, Ac2, Ac3, Ac4⟩ := A8.parts
  obtain ⟨Af0, Af1, Af2, Af3, Af4⟩ := A8.free
  go_wp2_with fail
  refine (K4.out _ (tb_on HT.out.2 (by repeat (first | (with_reducible exact BW8) | (with_reducible refine bal ?_ _) | (with_reducible refine Below.drew ?_) | (with_reducible refine bdn ?_ _))))).mono ?_
  rintro e w9 ⟨rfl, hb⟩
  have BW9 : Below w.heap.size w w9 := btr (by repeat (first | (with_reducible exact BW8) | (with_reducible refine bal ?_ _) | (with_reducible refine Below.drew ?_) | (with_reducible refine bdn ?_ _))) hb
  have A9 : Row5 w9 w.heap.size (.bool ga) (.int .u64 a0) (.int .u64 a1) (.int .u64 a2) (.int .u64 a3) := Row5.keep hb (by repeat (first | (with_reducible exact A8) | (with_reducible refine Row5.alloc ?_ _) | (with_reducible refine Row5.drew ?_)))
  have B9 : Row5 w9 (w.heap.size + 1) (.bool gb) (.int .u64 b0) (.int .u64 b1) (.int .u64 b2) (.int .u64 b3) := Row5.keep hb (by repeat (first | (with_reducible exact B8) | (with_reducible refine Row5.alloc ?_ _) | (with_reducible refine Row5.drew ?_)))
  have U9 : Row5 w9 w3.heap.size (.bool gu) (.int .u64 u0) (.int .u64 u1) (.int .u64 u2) (.int .u64 u3) := Row5.keep hb (by repeat (first | (with_reducible exact U8) | (with_reducible refine Row5.alloc ?_ _) | (with_reducible refine Row5.drew ?_)))
  have D9 : Row5 w9 w5.heap.size (.bool gd) (.int .u64 d0) (.int .u64 d1) (.int .u64 d2) (.int .u64 d3) := Row5.keep hb (by repeat (first | (with_reducible exact D8) | (with_reducible refine Row5.alloc ?_ _) | (with_reducible refine Row5.drew ?_)))
  have H9 : Row5 w9 w7.heap.size (.bool gh) (.int .u64 h0) (.int .u64 h1) (.int .u64 h2) (.int .u64 h3) := Row5.keep hb (by repeat (first | (with_reducible exact H8) | (with_reducible refine Row5.alloc ?_ _) | (with_reducible refine Row5.drew ?_)))
  clear A8 B8 U8 D8 H8
  clear BW8
  clear hb
  go_upto_region 7 with (fail)
  go_name_world w10 hw10
  have BW10 : Below w.heap.size w w10 := by rw [← hw10]; repeat (first | (with_reducible exact BW9) | (with_reducible refine bal ?_ _) | (with_reducible refine Below.drew ?_) | (with_reducible refine bdn ?_ _))
  have A10 : Row5 w10 w.heap.size (.bool ga) (.int .u64 a0) (.int .u64 a1) (.int .u64 a2) (.int .u64 a3) := by rw [← hw10]; exact (by repeat (first | (with_reducible exact A9) | (with_reducible refine Row5.alloc ?_ _) | (with_reducible refine Row5.drew ?_)))
  have B10 : Row5 w10 (w.heap.size + 1) (.bool gb) (.int .u64 b0) (.int .u64 b1) (.int .u64 b2) (.int .u64 b3) := by rw [← hw10]; exact (by repeat (first | (with_reducible exact B9) | (with_reducible refine Row5.alloc ?_ _) | (with_reducible refine Row5.drew ?_)))
  have U10 : Row5 w10 w3.heap.size (.bool gu) (.int .u64 u0) (.int .u64 u1) (.int .u64 u2) (.int .u64 u3) := by rw [← hw10]; exact (by repeat (first | (with_reducible exact U9) | (with_reducible refine Row5.alloc ?_ _) | (with_reducible refine Row5.drew ?_)))
  have D10 : Row5 w10 w5.heap.size (.bool gd) (.int .u64 d0) (.int .u64 d1) (.int .u64 d2) (.int .u64 d3) := by rw [← hw10]; exact (by repeat (first | (with_reducible exact D9) | (with_reducible refine Row5.alloc ?_ _) | (with_reducible refine Row5.drew ?_)))
  have H10 : Row5 w10 w7.heap.size (.bool gh) (.int .u64 h0) (.int .u64 h1) (.int .u64 h2) (.int .u64 h3) := by rw [← hw10]; exact (by repeat (first | (with_reducible exact H9) | (with_reducible refine Row5.alloc ?_ _) | (with_reducible refine Row5.drew ?_)))
  have apO_A := A9.lt
  have apO_B := B9.lt
  have apO_U := U9.lt
  have apO_D := D9.lt
  have apO_H := H9.lt
  have apO_0 := (BW9).size
  have O10 : Row5 w10 w9.heap.size (.bool go) (.int .u64 o0) (.int .u64 o1) (.int .u64 o2) (.int .u64 o3) := by rw [← hw10]; exact (by repeat (first | (with_reducible exact Row5.new _ _ _ _ _ _) | ((with_reducible refine Row5.new' _ ?_ _ _ _ _ _); (simp; done)) | (with_reducible refine Row5.alloc ?_ _) | (with_reducible refine Row5.drew ?_)))
  clear A9 B9 U9 D9 H9
  clear BW9
  clear hw10
  obtain ⟨Bc0, Bc1, Bc2, Bc3, Bc4⟩ := B10.parts
  obtain ⟨Bf0, Bf1, Bf2, Bf3, Bf4⟩ := B10.free
  go_wp2_with fail
  refine (K5.out _ (tb_on HT.out.2 (by repeat (first | (with_reducible exact BW10) | (with_reducible refine bal ?_ _) | (with_reducible refine Below.drew ?_) | (with_reducible refine bdn ?_ _))))).mono ?_
  rintro e w11 ⟨rfl, hb⟩
  have BW11 : Below w.heap.size w w11 := btr (by repeat (first | (with_reducible exact BW10) | (with_reducible refine bal ?_ _) | (with_reducible refine Below.drew ?_) | (with_reducible refine bdn ?_ _))) hb
  have A11 : Row5 w11 w.heap.size (.bool ga) (.int .u64 a0) (.int .u64 a1) (.int .u64 a2) (.int .u64 a3) := Row5.keep hb (by repeat (first | (with_reducible exact A10) | (with_reducible refine Row5.alloc ?_ _) | (with_reducible refine Row5.drew ?_)))
  have B11 : Row5 w11 (w.heap.size + 1) (.bool gb) (.int .u64 b0) (.int .u64 b1) (.int .u64 b2) (.int .u64 b3) := Row5.keep hb (by repeat (first | (with_reducible exact B10) | (with_reducible refine Row5.alloc ?_ _) | (with_reducible refine Row5.drew ?_)))
  have U11 : Row5 w11 w3.heap.size (.bool gu) (.int .u64 u0) (.int .u64 u1) (.int .u64 u2) (.int .u64 u3) := Row5.keep hb (by repeat (first | (with_reducible exact U10) | (with_reducible refine Row5.alloc ?_ _) | (with_reducible refine Row5.drew ?_)))
  have D11 : Row5 w11 w5.heap.size (.bool gd) (.int .u64 d0) (.int .u64 d1) (.int .u64 d2) (.int .u64 d3) := Row5.keep hb (by repeat (first | (with_reducible exact D10) | (with_reducible refine Row5.alloc ?_ _) | (with_reducible refine Row5.drew ?_)))
  have H11 : Row5 w11 w7.heap.size (.bool gh) (.int .u64 h0) (.int .u64 h1) (.int .u64 h2) (.int .u64 h3) := Row5.keep hb (by repeat (first | (with_reducible exact H10) | (with_reducible refine Row5.alloc ?_ _) | (with_reducible refine Row5.drew ?_)))
  have O11 : Row5 w11 w9.heap.size (.bool go) (.int .u64 o0) (.int .u64 o1) (.int .u64 o2) (.int .u64 o3) := Row5.keep hb (by repeat (first | (with_reducible exact O10) | (with_reducible refine Row5.alloc ?_ _) | (with_reducible refine Row5.drew ?_)))
  clear A10 B10 U10 D10 H10 O10
  clear BW10
  clear hb
  obtain ⟨Ac0, Ac1, Ac2, Ac3, Ac4⟩ := A11.parts
  obtain ⟨Af0, Af1, Af2, Af3, Af4⟩ := A11.free
  obtain ⟨Bc0, Bc1, Bc2, Bc3, Bc4⟩ := B11.parts
  obtain ⟨Bf0, Bf1, Bf2, Bf3, Bf4⟩ := B11.free
  go_wp2_with fail
  (with_reducible refine (K6.out _).mono ?_)
  rintro e w12 ⟨rfl, hb⟩
  have BW12 : Below w.heap.size w w12 := btr (by repeat (first | (with_reducible exact BW11) | (with_reducible refine bal ?_ _) | (with_reducible refine Below.drew ?_) | (with_reducible refine bdn ?_ _))) hb
  have A12 : Row5 w12 w.heap.size (.bool ga) (.int .u64 a0) (.int .u64 a1) (.int .u64 a2) (.int .u64 a3) := Row5.keep hb (by repeat (first | (with_reducible exact A11) | (with_reducible refine Row5.alloc ?_ _) | (with_reducible refine Row5.drew ?_)))
  have B12 : Row5 w12 (w.heap.size + 1) (.bool gb) (.int .u64 b0) (.int .u64 b1) (.int .u64 b2) (.int .u64 b3) := Row5.keep hb (by repeat (first | (with_reducible exact B11) | (with_reducible refine Row5.alloc ?_ _) | (with_reducible refine Row5.drew ?_)))
  have U12 : Row5 w12 w3.heap.size (.bool gu) (.int .u64 u0) (.int .u64 u1) (.int .u64 u2) (.int .u64 u3) := Row5.keep hb (by repeat (first | (with_reducible exact U11) | (with_reducible refine Row5.alloc ?_ _) | (with_reducible refine Row5.drew ?_)))
  have D12 : Row5 w12 w5.heap.size (.bool gd) (.int .u64 d0) (.int .u64 d1) (.int .u64 d2) (.int .u64 d3) := Row5.keep hb (by repeat (first | (with_reducible exact D11) | (with_reducible refine Row5.alloc ?_ _) | (with_reducible refine Row5.drew ?_)))
  have H12 : Row5 w12 w7.heap.size (.bool gh) (.int .u64 h0) (.int .u64 h1) (.int .u64 h2) (.int .u64 h3) := Row5.keep hb (by repeat (first | (with_reducible exact H11) | (with_reducible refine Row5.alloc ?_ _) | (with_reducible refine Row5.drew ?_)))
  have O12 : Row5 w12 w9.heap.size (.bool go) (.int .u64 o0) (.int .u64 o1) (.int .u64 o2) (.int .u64 o3) := Row5.keep hb (by repeat (first | (with_reducible exact O11) | (with_reducible refine Row5.alloc ?_ _) | (with_reducible refine Row5.drew ?_)))
  clear A11 B11 U11 D11 H11 O11
  clear BW11
  clear hb
  go_upto_region 9 with (fail)
  go_name_world w13 hw13
  have BW13 : Below w.heap.size w w13 := by rw [← hw13]; repeat (first | (with_reducible exact BW12) | (with_reducible refine bal ?_ _) | (with_reducible refine Below.drew ?_) | (with_reducible refine bdn ?_ _))
  have A13 : Row5 w13 w.heap.size (.bool ga) (.int .u64 a0) (.int .u64 a1) (.int .u64 a2) (.int .u64 a3) := by rw [← hw13]; exact (by repeat (first | (with_reducible exact A12) | (with_reducible refine Row5.alloc ?_ _) | (with_reducible refine Row5.drew ?_)))
  have B13 : Row5 w13 (w.heap.size + 1) (.bool gb) (.int .u64 b0) (.int .u64 b1) (.int .u64 b2) (.int .u64 b3) := by rw [← hw13]; exact (by repeat (first | (with_reducible exact B12) | (with_reducible refine Row5.alloc ?_ _) | (with_reducible refine Row5.drew ?_)))
  have U13 : Row5 w13 w3.heap.size (.bool gu) (.int .u64 u0) (.int .u64 u1) (.int .u64 u2) (.int .u64 u3) := by rw [← hw13]; exact (by repeat (first | (with_reducible exact U12) | (with_reducible refine Row5.alloc ?_ _) | (with_reducible refine Row5.drew ?_)))
  have D13 : Row5 w13 w5.heap.size (.bool gd) (.int .u64 d0) (.int .u64 d1) (.int .u64 d2) (.int .u64 d3) := by rw [← hw13]; exact (by repeat (first | (with_reducible exact D12) | (with_reducible refine Row5.alloc ?_ _) | (with_reducible refine Row5.drew ?_)))
  have H13 : Row5 w13 w7.heap.size (.bool gh) (.int .u64 h0) (.int .u64 h1) (.int .u64 h2) (.int .u64 h3) := by rw [← hw13]; exact (by repeat (first | (with_reducible exact H12) | (with_reducible refine Row5.alloc ?_ _) | (with_reducible refine Row5.drew ?_)))
  have O13 : Row5 w13 w9.heap.size (.bool go) (.int .u64 o0) (.int .u64 o1) (.int .u64 o2) (.int .u64 o3) := by rw [← hw13]; exact (by repeat (first | (with_reducible exact O12) | (with_reducible refine Row5.alloc ?_ _) | (with_reducible refine Row5.drew ?_)))
  clear A12 B12 U12 D12 H12 O12
  clear BW12
  clear hw13
  go_cut [77] (fun sx wx => sx = .bool false ∧ Row5 wx w.heap.size (.bool ga) (.int .u64 a0) (.int .u64 a1) (.int .u64 a2) (.int .u64 a3) ∧ Row5 wx (w.heap.size + 1) (.bool gb) (.int .u64 b0) (.int .u64 b1) (.int .u64 b2) (.int .u64 b3) ∧ Row5 wx w3.heap.size (.bool gu) (.int .u64 u0) (.int .u64 u1) (.int .u64 u2) (.int .u64 u3) ∧ Row5 wx w5.heap.size (.bool gd) (.int .u64 d0) (.int .u64 d1) (.int .u64 d2) (.int .u64 d3) ∧ Row5 wx w7.heap.size (.bool gh) (.int .u64 h0) (.int .u64 h1) (.int .u64 h2) (.int .u64 h3) ∧ Row5 wx w9.heap.size (.bool go) (.int .u64 o0) (.int .u64 o1) (.int .u64 o2) (.int .u64 o3) ∧ Below w.heap.size w wx)
  case first =>
    cases ex <;> rcases HC.out with hc | hc | hc
    · subst hc; clear HC
      go_wp2
      go_meet
      exact ⟨(by first | rfl | exact congrArg Value.bool (decide_eq_false (by omega)) | exact congrArg Value.bool (by rw [decide_eq_false (by omega), decide_eq_false (by omega)]; rfl)), (by repeat (first | (with_reducible exact A13) | (with_reducible refine Row5.drew ?_))), (by repeat (first | (with_reducible exact B13) | (with_reducible refine Row5.drew ?_))), (by repeat (first | (with_reducible exact U13) | (with_reducible refine Row5.drew ?_))), (by repeat (first | (with_reducible exact D13) | (with_reducible refine Row5.drew ?_))), (by repeat (first | (with_reducible exact H13) | (with_reducible refine Row5.drew ?_))), (by repeat (first | (with_reducible exact O13) | (with_reducible refine Row5.drew ?_))), BW13⟩
    · subst hc; clear HC
      go_wp2
      go_meet
      exact ⟨(by first | rfl | exact congrArg Value.bool (decide_eq_false (by omega)) | exact congrArg Value.bool (by rw [decide_eq_false (by omega), decide_eq_false (by omega)]; rfl)), (by repeat (first | (with_reducible exact A13) | (with_reducible refine Row5.drew ?_))), (by repeat (first | (with_reducible exact B13) | (with_reducible refine Row5.drew ?_))), (by repeat (first | (with_reducible exact U13) | (with_reducible refine Row5.drew ?_))), (by repeat (first | (with_reducible exact D13) | (with_reducible refine Row5.drew ?_))), (by repeat (first | (with_reducible exact H13) | (with_reducible refine Row5.drew ?_))), (by repeat (first | (with_reducible exact O13) | (with_reducible refine Row5.drew ?_))), BW13⟩
    · subst hc; clear HC
      go_wp2
      go_meet
      exact ⟨(by first | rfl | exact congrArg Value.bool (decide_eq_false (by omega)) | exact congrArg Value.bool (by rw [decide_eq_false (by omega), decide_eq_false (by omega)]; rfl)), (by repeat (first | (with_reducible exact A13) | (with_reducible refine Row5.drew ?_))), (by repeat (first | (with_reducible exact B13) | (with_reducible refine Row5.drew ?_))), (by repeat (first | (with_reducible exact U13) | (with_reducible refine Row5.drew ?_))), (by repeat (first | (with_reducible exact D13) | (with_reducible refine Row5.drew ?_))), (by repeat (first | (with_reducible exact H13) | (with_reducible refine Row5.drew ?_))), (by repeat (first | (with_reducible exact O13) | (with_reducible refine Row5.drew ?_))), BW13⟩
    · subst hc; clear HC
      have j2 := F2.out rfl (by decide)
      clear F1 F2 F3 F4
      obtain ⟨Bc0, Bc1, Bc2, Bc3, Bc4⟩ := B13.parts
      obtain ⟨Bf0, Bf1, Bf2, Bf3, Bf4⟩ := B13.free
      obtain ⟨Dc0, Dc1, Dc2, Dc3, Dc4⟩ := D13.parts
      obtain ⟨Df0, Df1, Df2, Df3, Df4⟩ := D13.free
      go_wp2_with fail
      (with_reducible refine (K8.out _).mono ?_)
      rintro e w14 ⟨rfl, hb⟩
      have BW14 : Below w.heap.size w w14 := btr (by repeat (first | (with_reducible exact BW13) | (with_reducible refine bal ?_ _) | (with_reducible refine Below.drew ?_) | (with_reducible refine bdn ?_ _))) hb
      have A14 : Row5 w14 w.heap.size (.bool ga) (.int .u64 a0) (.int .u64 a1) (.int .u64 a2) (.int .u64 a3) := Row5.keep hb (by repeat (first | (with_reducible exact A13) | (with_reducible refine Row5.alloc ?_ _) | (with_reducible refine Row5.drew ?_)))
      have B14 : Row5 w14 (w.heap.size + 1) (.bool gb) (.int .u64 b0) (.int .u64 b1) (.int .u64 b2) (.int .u64 b3) := Row5.keep hb (by repeat (first | (with_reducible exact B13) | (with_reducible refine Row5.alloc ?_ _) | (with_reducible refine Row5.drew ?_)))
      have U14 : Row5 w14 w3.heap.size (.bool gu) (.int .u64 u0) (.int .u64 u1) (.int .u64 u2) (.int .u64 u3) := Row5.keep hb (by repeat (first | (with_reducible exact U13) | (with_reducible refine Row5.alloc ?_ _) | (with_reducible refine Row5.drew ?_)))
      have D14 : Row5 w14 w5.heap.size (.bool gd) (.int .u64 d0) (.int .u64 d1) (.int .u64 d2) (.int .u64 d3) := Row5.keep hb (by repeat (first | (with_reducible exact D13) | (with_reducible refine Row5.alloc ?_ _) | (with_reducible refine Row5.drew ?_)))
      have H14 : Row5 w14 w7.heap.size (.bool gh) (.int .u64 h0) (.int .u64 h1) (.int .u64 h2) (.int .u64 h3) := Row5.keep hb (by repeat (first | (with_reducible exact H13) | (with_reducible refine Row5.alloc ?_ _) | (with_reducible refine Row5.drew ?_)))
      have O14 : Row5 w14 w9.heap.size (.bool go) (.int .u64 o0) (.int .u64 o1) (.int .u64 o2) (.int .u64 o3) := Row5.keep hb (by repeat (first | (with_reducible exact O13) | (with_reducible refine Row5.alloc ?_ _) | (with_reducible refine Row5.drew ?_)))
      clear A13 B13 U13 D13 H13 O13
      clear BW13
      clear hb
      go_wp2
      go_meet
      exact ⟨(by first | rfl | exact congrArg Value.bool (decide_eq_false (by omega)) | exact congrArg Value.bool (by rw [decide_eq_false (by omega), decide_eq_false (by omega)]; rfl)), A14, B14, U14, D14, H14, O14, BW14⟩
    · subst hc; clear HC
      have j1 := F1.out rfl (by decide)
      have j2 := F2.out rfl (by decide)
      clear F1 F2 F3 F4
      obtain ⟨Bc0, Bc1, Bc2, Bc3, Bc4⟩ := B13.parts
      obtain ⟨Bf0, Bf1, Bf2, Bf3, Bf4⟩ := B13.free
      obtain ⟨Uc0, Uc1, Uc2, Uc3, Uc4⟩ := U13.parts
      obtain ⟨Uf0, Uf1, Uf2, Uf3, Uf4⟩ := U13.free
      go_wp2_with fail
      (with_reducible refine (K7.out _).mono ?_)
      rintro e w14 ⟨rfl, hb⟩
      have BW14 : Below w.heap.size w w14 := btr (by repeat (first | (with_reducible exact BW13) | (with_reducible refine bal ?_ _) | (with_reducible refine Below.drew ?_) | (with_reducible refine bdn ?_ _))) hb
      have A14 : Row5 w14 w.heap.size (.bool ga) (.int .u64 a0) (.int .u64 a1) (.int .u64 a2) (.int .u64 a3) := Row5.keep hb (by repeat (first | (with_reducible exact A13) | (with_reducible refine Row5.alloc ?_ _) | (with_reducible refine Row5.drew ?_)))
      have B14 : Row5 w14 (w.heap.size + 1) (.bool gb) (.int .u64 b0) (.int .u64 b1) (.int .u64 b2) (.int .u64 b3) := Row5.keep hb (by repeat (first | (with_reducible exact B13) | (with_reducible refine Row5.alloc ?_ _) | (with_reducible refine Row5.drew ?_)))
      have U14 : Row5 w14 w3.heap.size (.bool gu) (.int .u64 u0) (.int .u64 u1) (.int .u64 u2) (.int .u64 u3) := Row5.keep hb (by repeat (first | (with_reducible exact U13) | (with_reducible refine Row5.alloc ?_ _) | (with_reducible refine Row5.drew ?_)))
      have D14 : Row5 w14 w5.heap.size (.bool gd) (.int .u64 d0) (.int .u64 d1) (.int .u64 d2) (.int .u64 d3) := Row5.keep hb (by repeat (first | (with_reducible exact D13) | (with_reducible refine Row5.alloc ?_ _) | (with_reducible refine Row5.drew ?_)))
      have H14 : Row5 w14 w7.heap.size (.bool gh) (.int .u64 h0) (.int .u64 h1) (.int .u64 h2) (.int .u64 h3) := Row5.keep hb (by repeat (first | (with_reducible exact H13) | (with_reducible refine Row5.alloc ?_ _) | (with_reducible refine Row5.drew ?_)))
      have O14 : Row5 w14 w9.heap.size (.bool go) (.int .u64 o0) (.int .u64 o1) (.int .u64 o2) (.int .u64 o3) := Row5.keep hb (by repeat (first | (with_reducible exact O13) | (with_reducible refine Row5.alloc ?_ _) | (with_reducible refine Row5.drew ?_)))
      clear A13 B13 U13 D13 H13 O13
      clear BW13
      clear hb
      obtain ⟨Bc0, Bc1, Bc2, Bc3, Bc4⟩ := B14.parts
      obtain ⟨Bf0, Bf1, Bf2, Bf3, Bf4⟩ := B14.free
      obtain ⟨Dc0, Dc1, Dc2, Dc3, Dc4⟩ := D14.parts
      obtain ⟨Df0, Df1, Df2, Df3, Df4⟩ := D14.free
      go_wp2_with fail
      (with_reducible refine (K8.out _).mono ?_)
      rintro e w15 ⟨rfl, hb⟩
      have BW15 : Below w.heap.size w w15 := btr (by repeat (first | (with_reducible exact BW14) | (with_reducible refine bal ?_ _) | (with_reducible refine Below.drew ?_) | (with_reducible refine bdn ?_ _))) hb
      have A15 : Row5 w15 w.heap.size (.bool ga) (.int .u64 a0) (.int .u64 a1) (.int .u64 a2) (.int .u64 a3) := Row5.keep hb (by repeat (first | (with_reducible exact A14) | (with_reducible refine Row5.alloc ?_ _) | (with_reducible refine Row5.drew ?_)))
      have B15 : Row5 w15 (w.heap.size + 1) (.bool gb) (.int .u64 b0) (.int .u64 b1) (.int .u64 b2) (.int .u64 b3) := Row5.keep hb (by repeat (first | (with_reducible exact B14) | (with_reducible refine Row5.alloc ?_ _) | (with_reducible refine Row5.drew ?_)))
      have U15 : Row5 w15 w3.heap.size (.bool gu) (.int .u64 u0) (.int .u64 u1) (.int .u64 u2) (.int .u64 u3) := Row5.keep hb (by repeat (first | (with_reducible exact U14) | (with_reducible refine Row5.alloc ?_ _) | (with_reducible refine Row5.drew ?_)))
      have D15 : Row5 w15 w5.heap.size (.bool gd) (.int .u64 d0) (.int .u64 d1) (.int .u64 d2) (.int .u64 d3) := Row5.keep hb (by repeat (first | (with_reducible exact D14) | (with_reducible refine Row5.alloc ?_ _) | (with_reducible refine Row5.drew ?_)))
      have H15 : Row5 w15 w7.heap.size (.bool gh) (.int .u64 h0) (.int .u64 h1) (.int .u64 h2) (.int .u64 h3) := Row5.keep hb (by repeat (first | (with_reducible exact H14) | (with_reducible refine Row5.alloc ?_ _) | (with_reducible refine Row5.drew ?_)))
      have O15 : Row5 w15 w9.heap.size (.bool go) (.int .u64 o0) (.int .u64 o1) (.int .u64 o2) (.int .u64 o3) := Row5.keep hb (by repeat (first | (with_reducible exact O14) | (with_reducible refine Row5.alloc ?_ _) | (with_reducible refine Row5.drew ?_)))
      clear A14 B14 U14 D14 H14 O14
      clear BW14
      clear hb
      go_wp2
      go_meet
      exact ⟨(by first | rfl | exact congrArg Value.bool (decide_eq_false (by omega)) | exact congrArg Value.bool (by rw [decide_eq_false (by omega), decide_eq_false (by omega)]; rfl)), A15, B15, U15, D15, H15, O15, BW15⟩
    · subst hc; clear HC
      have j1 := F1.out rfl (by decide)
      clear F1 F2 F3 F4
      obtain ⟨Bc0, Bc1, Bc2, Bc3, Bc4⟩ := B13.parts
      obtain ⟨Bf0, Bf1, Bf2, Bf3, Bf4⟩ := B13.free
      obtain ⟨Uc0, Uc1, Uc2, Uc3, Uc4⟩ := U13.parts
      obtain ⟨Uf0, Uf1, Uf2, Uf3, Uf4⟩ := U13.free
      go_wp2_with fail
      (with_reducible refine (K7.out _).mono ?_)
      rintro e w14 ⟨rfl, hb⟩
      have BW14 : Below w.heap.size w w14 := btr (by repeat (first | (with_reducible exact BW13) | (with_reducible refine bal ?_ _) | (with_reducible refine Below.drew ?_) | (with_reducible refine bdn ?_ _))) hb
      have A14 : Row5 w14 w.heap.size (.bool ga) (.int .u64 a0) (.int .u64 a1) (.int .u64 a2) (.int .u64 a3) := Row5.keep hb (by repeat (first | (with_reducible exact A13) | (with_reducible refine Row5.alloc ?_ _) | (with_reducible refine Row5.drew ?_)))
      have B14 : Row5 w14 (w.heap.size + 1) (.bool gb) (.int .u64 b0) (.int .u64 b1) (.int .u64 b2) (.int .u64 b3) := Row5.keep hb (by repeat (first | (with_reducible exact B13) | (with_reducible refine Row5.alloc ?_ _) | (with_reducible refine Row5.drew ?_)))
      have U14 : Row5 w14 w3.heap.size (.bool gu) (.int .u64 u0) (.int .u64 u1) (.int .u64 u2) (.int .u64 u3) := Row5.keep hb (by repeat (first | (with_reducible exact U13) | (with_reducible refine Row5.alloc ?_ _) | (with_reducible refine Row5.drew ?_)))
      have D14 : Row5 w14 w5.heap.size (.bool gd) (.int .u64 d0) (.int .u64 d1) (.int .u64 d2) (.int .u64 d3) := Row5.keep hb (by repeat (first | (with_reducible exact D13) | (with_reducible refine Row5.alloc ?_ _) | (with_reducible refine Row5.drew ?_)))
      have H14 : Row5 w14 w7.heap.size (.bool gh) (.int .u64 h0) (.int .u64 h1) (.int .u64 h2) (.int .u64 h3) := Row5.keep hb (by repeat (first | (with_reducible exact H13) | (with_reducible refine Row5.alloc ?_ _) | (with_reducible refine Row5.drew ?_)))
      have O14 : Row5 w14 w9.heap.size (.bool go) (.int .u64 o0) (.int .u64 o1) (.int .u64 o2) (.int .u64 o3) := Row5.keep hb (by repeat (first | (with_reducible exact O13) | (with_reducible refine Row5.alloc ?_ _) | (with_reducible refine Row5.drew ?_)))
      clear A13 B13 U13 D13 H13 O13
      clear BW13
      clear hb
      go_wp2
      go_meet
      exact ⟨(by first | rfl | exact congrArg Value.bool (decide_eq_false (by omega)) | exact congrArg Value.bool (by rw [decide_eq_false (by omega), decide_eq_false (by omega)]; rfl)), A14, B14, U14, D14, H14, O14, BW14⟩
  case rest =>
    generalize wc = w14 at *
    clear A13
    clear B13
    clear U13
    clear D13
    clear H13
    clear O13
    clear BW13
    obtain ⟨rfl, A14, B14, U14, D14, H14, O14, BW14⟩ := hcut
    go_upto_region 11 with (fail)
    go_name_world w15 hw15
    have BW15 : Below w.heap.size w w15 := by rw [← hw15]; repeat (first | (with_reducible exact BW14) | (with_reducible refine bal ?_ _) | (with_reducible refine Below.drew ?_) | (with_reducible refine bdn ?_ _))
    have A15 : Row5 w15 w.heap.size (.bool ga) (.int .u64 a0) (.int .u64 a1) (.int .u64 a2) (.int .u64 a3) := by rw [← hw15]; exact (by repeat (first | (with_reducible exact A14) | (with_reducible refine Row5.alloc ?_ _) | (with_reducible refine Row5.drew ?_)))
    have B15 : Row5 w15 (w.heap.size + 1) (.bool gb) (.int .u64 b0) (.int .u64 b1) (.int .u64 b2) (.int .u64 b3) := by rw [← hw15]; exact (by repeat (first | (with_reducible exact B14) | (with_reducible refine Row5.alloc ?_ _) | (with_reducible refine Row5.drew ?_)))
    have U15 : Row5 w15 w3.heap.size (.bool gu) (.int .u64 u0) (.int .u64 u1) (.int .u64 u2) (.int .u64 u3) := by rw [← hw15]; exact (by repeat (first | (with_reducible exact U14) | (with_reducible refine Row5.alloc ?_ _) | (with_reducible refine Row5.drew ?_)))
    have D15 : Row5 w15 w5.heap.size (.bool gd) (.int .u64 d0) (.int .u64 d1) (.int .u64 d2) (.int .u64 d3) := by rw [← hw15]; exact (by repeat (first | (with_reducible exact D14) | (with_reducible refine Row5.alloc ?_ _) | (with_reducible refine Row5.drew ?_)))
    have H15 : Row5 w15 w7.heap.size (.bool gh) (.int .u64 h0) (.int .u64 h1) (.int .u64 h2) (.int .u64 h3) := by rw [← hw15]; exact (by repeat (first | (with_reducible exact H14) | (with_reducible refine Row5.alloc ?_ _) | (with_reducible refine Row5.drew ?_)))
    have O15 : Row5 w15 w9.heap.size (.bool go) (.int .u64 o0) (.int .u64 o1) (.int .u64 o2) (.int .u64 o3) := by rw [← hw15]; exact (by repeat (first | (with_reducible exact O14) | (with_reducible refine Row5.alloc ?_ _) | (with_reducible refine Row5.drew ?_)))
    clear A14 B14 U14 D14 H14 O14
    clear BW14
    clear hw15
    go_cut [107] (fun sx wx => sx = .bool false ∧ Row5 wx w.heap.size (.bool ga) (.int .u64 a0) (.int .u64 a1) (.int .u64 a2) (.int .u64 a3) ∧ Row5 wx (w.heap.size + 1) (.bool gb) (.int .u64 b0) (.int .u64 b1) (.int .u64 b2) (.int .u64 b3) ∧ Row5 wx w3.heap.size (.bool gu) (.int .u64 u0) (.int .u64 u1) (.int .u64 u2) (.int .u64 u3) ∧ Row5 wx w5.heap.size (.bool gd) (.int .u64 d0) (.int .u64 d1) (.int .u64 d2) (.int .u64 d3) ∧ Row5 wx w7.heap.size (.bool gh) (.int .u64 h0) (.int .u64 h1) (.int .u64 h2) (.int .u64 h3) ∧ Row5 wx w9.heap.size (.bool go) (.int .u64 o0) (.int .u64 o1) (.int .u64 o2) (.int .u64 o3) ∧ Below w.heap.size w wx)
    case first =>
      cases ex <;> rcases HC.out with hc | hc | hc
      · subst hc; clear HC
        have j2 := F4.out rfl (by decide)
        clear F1 F2 F3 F4
        obtain ⟨Bc0, Bc1, Bc2, Bc3, Bc4⟩ := B15.parts
        obtain ⟨Bf0, Bf1, Bf2, Bf3, Bf4⟩ := B15.free
        obtain ⟨Oc0, Oc1, Oc2, Oc3, Oc4⟩ := O15.parts
        obtain ⟨Of0, Of1, Of2, Of3, Of4⟩ := O15.free
        go_wp2_with fail
        (with_reducible refine (K10.out _).mono ?_)
        rintro e w16 ⟨rfl, hb⟩
        have BW16 : Below w.heap.size w w16 := btr (by repeat (first | (with_reducible exact BW15) | (with_reducible refine bal ?_ _) | (with_reducible refine Below.drew ?_) | (with_reducible refine bdn ?_ _))) hb
        have A16 : Row5 w16 w.heap.size (.bool ga) (.int .u64 a0) (.int .u64 a1) (.int .u64 a2) (.int .u64 a3) := Row5.keep hb (by repeat (first | (with_reducible exact A15) | (with_reducible refine Row5.alloc ?_ _) | (with_reducible refine Row5.drew ?_)))
        have B16 : Row5 w16 (w.heap.size + 1) (.bool gb) (.int .u64 b0) (.int .u64 b1) (.int .u64 b2) (.int .u64 b3) := Row5.keep hb (by repeat (first | (with_reducible exact B15) | (with_reducible refine Row5.alloc ?_ _) | (with_reducible refine Row5.drew ?_)))
        have U16 : Row5 w16 w3.heap.size (.bool gu) (.int .u64 u0) (.int .u64 u1) (.int .u64 u2) (.int .u64 u3) := Row5.keep hb (by repeat (first | (with_reducible exact U15) | (with_reducible refine Row5.alloc ?_ _) | (with_reducible refine Row5.drew ?_)))
        have D16 : Row5 w16 w5.heap.size (.bool gd) (.int .u64 d0) (.int .u64 d1) (.int .u64 d2) (.int .u64 d3) := Row5.keep hb (by repeat (first | (with_reducible exact D15) | (with_reducible refine Row5.alloc ?_ _) | (with_reducible refine Row5.drew ?_)))
        have H16 : Row5 w16 w7.heap.size (.bool gh) (.int .u64 h0) (.int .u64 h1) (.int .u64 h2) (.int .u64 h3) := Row5.keep hb (by repeat (first | (with_reducible exact H15) | (with_reducible refine Row5.alloc ?_ _) | (with_reducible refine Row5.drew ?_)))
        have O16 : Row5 w16 w9.heap.size (.bool go) (.int .u64 o0) (.int .u64 o1) (.int .u64 o2) (.int .u64 o3) := Row5.keep hb (by repeat (first | (with_reducible exact O15) | (with_reducible refine Row5.alloc ?_ _) | (with_reducible refine Row5.drew ?_)))
        clear A15 B15 U15 D15 H15 O15
        clear BW15
        clear hb
        go_wp2
        go_meet
        exact ⟨(by first | rfl | exact congrArg Value.bool (decide_eq_false (by omega)) | exact congrArg Value.bool (by rw [decide_eq_false (by omega), decide_eq_false (by omega)]; rfl)), A16, B16, U16, D16, H16, O16, BW16⟩
      · subst hc; clear HC
        have j1 := F3.out rfl (by decide)
        have j2 := F4.out rfl (by decide)
        clear F1 F2 F3 F4
        obtain ⟨Bc0, Bc1, Bc2, Bc3, Bc4⟩ := B15.parts
        obtain ⟨Bf0, Bf1, Bf2, Bf3, Bf4⟩ := B15.free
        obtain ⟨Hc0, Hc1, Hc2, Hc3, Hc4⟩ := H15.parts
        obtain ⟨Hf0, Hf1, Hf2, Hf3, Hf4⟩ := H15.free
        go_wp2_with fail
        (with_reducible refine (K9.out _).mono ?_)
        rintro e w16 ⟨rfl, hb⟩
        have BW16 : Below w.heap.size w w16 := btr (by repeat (first | (with_reducible exact BW15) | (with_reducible refine bal ?_ _) | (with_reducible refine Below.drew ?_) | (with_reducible refine bdn ?_ _))) hb
        have A16 : Row5 w16 w.heap.size (.bool ga) (.int .u64 a0) (.int .u64 a1) (.int .u64 a2) (.int .u64 a3) := Row5.keep hb (by repeat (first | (with_reducible exact A15) | (with_reducible refine Row5.alloc ?_ _) | (with_reducible refine Row5.drew ?_)))
        have B16 : Row5 w16 (w.heap.size + 1) (.bool gb) (.int .u64 b0) (.int .u64 b1) (.int .u64 b2) (.int .u64 b3) := Row5.keep hb (by repeat (first | (with_reducible exact B15) | (with_reducible refine Row5.alloc ?_ _) | (with_reducible refine Row5.drew ?_)))
        have U16 : Row5 w16 w3.heap.size (.bool gu) (.int .u64 u0) (.int .u64 u1) (.int .u64 u2) (.int .u64 u3) := Row5.keep hb (by repeat (first | (with_reducible exact U15) | (with_reducible refine Row5.alloc ?_ _) | (with_reducible refine Row5.drew ?_)))
        have D16 : Row5 w16 w5.heap.size (.bool gd) (.int .u64 d0) (.int .u64 d1) (.int .u64 d2) (.int .u64 d3) := Row5.keep hb (by repeat (first | (with_reducible exact D15) | (with_reducible refine Row5.alloc ?_ _) | (with_reducible refine Row5.drew ?_)))
        have H16 : Row5 w16 w7.heap.size (.bool gh) (.int .u64 h0) (.int .u64 h1) (.int .u64 h2) (.int .u64 h3) := Row5.keep hb (by repeat (first | (with_reducible exact H15) | (with_reducible refine Row5.alloc ?_ _) | (with_reducible refine Row5.drew ?_)))
        have O16 : Row5 w16 w9.heap.size (.bool go) (.int .u64 o0) (.int .u64 o1) (.int .u64 o2) (.int .u64 o3) := Row5.keep hb (by repeat (first | (with_reducible exact O15) | (with_reducible refine Row5.alloc ?_ _) | (with_reducible refine Row5.drew ?_)))
        clear A15 B15 U15 D15 H15 O15
        clear BW15
        clear hb
        obtain ⟨Bc0, Bc1, Bc2, Bc3, Bc4⟩ := B16.parts
        obtain ⟨Bf0, Bf1, Bf2, Bf3, Bf4⟩ := B16.free
        obtain ⟨Oc0, Oc1, Oc2, Oc3, Oc4⟩ := O16.parts
        obtain ⟨Of0, Of1, Of2, Of3, Of4⟩ := O16.free
        go_wp2_with fail
        (with_reducible refine (K10.out _).mono ?_)
        rintro e w17 ⟨rfl, hb⟩
        have BW17 : Below w.heap.size w w17 := btr (by repeat (first | (with_reducible exact BW16) | (with_reducible refine bal ?_ _) | (with_reducible refine Below.drew ?_) | (with_reducible refine bdn ?_ _))) hb
        have A17 : Row5 w17 w.heap.size (.bool ga) (.int .u64 a0) (.int .u64 a1) (.int .u64 a2) (.int .u64 a3) := Row5.keep hb (by repeat (first | (with_reducible exact A16) | (with_reducible refine Row5.alloc ?_ _) | (with_reducible refine Row5.drew ?_)))
        have B17 : Row5 w17 (w.heap.size + 1) (.bool gb) (.int .u64 b0) (.int .u64 b1) (.int .u64 b2) (.int .u64 b3) := Row5.keep hb (by repeat (first | (with_reducible exact B16) | (with_reducible refine Row5.alloc ?_ _) | (with_reducible refine Row5.drew ?_)))
        have U17 : Row5 w17 w3.heap.size (.bool gu) (.int .u64 u0) (.int .u64 u1) (.int .u64 u2) (.int .u64 u3) := Row5.keep hb (by repeat (first | (with_reducible exact U16) | (with_reducible refine Row5.alloc ?_ _) | (with_reducible refine Row5.drew ?_)))
        have D17 : Row5 w17 w5.heap.size (.bool gd) (.int .u64 d0) (.int .u64 d1) (.int .u64 d2) (.int .u64 d3) := Row5.keep hb (by repeat (first | (with_reducible exact D16) | (with_reducible refine Row5.alloc ?_ _) | (with_reducible refine Row5.drew ?_)))
        have H17 : Row5 w17 w7.heap.size (.bool gh) (.int .u64 h0) (.int .u64 h1) (.int .u64 h2) (.int .u64 h3) := Row5.keep hb (by repeat (first | (with_reducible exact H16) | (with_reducible refine Row5.alloc ?_ _) | (with_reducible refine Row5.drew ?_)))
        have O17 : Row5 w17 w9.heap.size (.bool go) (.int .u64 o0) (.int .u64 o1) (.int .u64 o2) (.int .u64 o3) := Row5.keep hb (by repeat (first | (with_reducible exact O16) | (with_reducible refine Row5.alloc ?_ _) | (with_reducible refine Row5.drew ?_)))
        clear A16 B16 U16 D16 H16 O16
        clear BW16
        clear hb
        go_wp2
        go_meet
        exact ⟨(by first | rfl | exact congrArg Value.bool (decide_eq_false (by omega)) | exact congrArg Value.bool (by rw [decide_eq_false (by omega), decide_eq_false (by omega)]; rfl)), A17, B17, U17, D17, H17, O17, BW17⟩
      · subst hc; clear HC
        have j1 := F3.out rfl (by decide)
        clear F1 F2 F3 F4
        obtain ⟨Bc0, Bc1, Bc2, Bc3, Bc4⟩ := B15.parts
        obtain ⟨Bf0, Bf1, Bf2, Bf3, Bf4⟩ := B15.free
        obtain ⟨Hc0, Hc1, Hc2, Hc3, Hc4⟩ := H15.parts
        obtain ⟨Hf0, Hf1, Hf2, Hf3, Hf4⟩ := H15.free
        go_wp2_with fail
        (with_reducible refine (K9.out _).mono ?_)
        rintro e w16 ⟨rfl, hb⟩
        have BW16 : Below w.heap.size w w16 := btr (by repeat (first | (with_reducible exact BW15) | (with_reducible refine bal ?_ _) | (with_reducible refine Below.drew ?_) | (with_reducible refine bdn ?_ _))) hb
        have A16 : Row5 w16 w.heap.size (.bool ga) (.int .u64 a0) (.int .u64 a1) (.int .u64 a2) (.int .u64 a3) := Row5.keep hb (by repeat (first | (with_reducible exact A15) | (with_reducible refine Row5.alloc ?_ _) | (with_reducible refine Row5.drew ?_)))
        have B16 : Row5 w16 (w.heap.size + 1) (.bool gb) (.int .u64 b0) (.int .u64 b1) (.int .u64 b2) (.int .u64 b3) := Row5.keep hb (by repeat (first | (with_reducible exact B15) | (with_reducible refine Row5.alloc ?_ _) | (with_reducible refine Row5.drew ?_)))
        have U16 : Row5 w16 w3.heap.size (.bool gu) (.int .u64 u0) (.int .u64 u1) (.int .u64 u2) (.int .u64 u3) := Row5.keep hb (by repeat (first | (with_reducible exact U15) | (with_reducible refine Row5.alloc ?_ _) | (with_reducible refine Row5.drew ?_)))
        have D16 : Row5 w16 w5.heap.size (.bool gd) (.int .u64 d0) (.int .u64 d1) (.int .u64 d2) (.int .u64 d3) := Row5.keep hb (by repeat (first | (with_reducible exact D15) | (with_reducible refine Row5.alloc ?_ _) | (with_reducible refine Row5.drew ?_)))
        have H16 : Row5 w16 w7.heap.size (.bool gh) (.int .u64 h0) (.int .u64 h1) (.int .u64 h2) (.int .u64 h3) := Row5.keep hb (by repeat (first | (with_reducible exact H15) | (with_reducible refine Row5.alloc ?_ _) | (with_reducible refine Row5.drew ?_)))
        have O16 : Row5 w16 w9.heap.size (.bool go) (.int .u64 o0) (.int .u64 o1) (.int .u64 o2) (.int .u64 o3) := Row5.keep hb (by repeat (first | (with_reducible exact O15) | (with_reducible refine Row5.alloc ?_ _) | (with_reducible refine Row5.drew ?_)))
        clear A15 B15 U15 D15 H15 O15
        clear BW15
        clear hb
        go_wp2
        go_meet
        exact ⟨(by first | rfl | exact congrArg Value.bool (decide_eq_false (by omega)) | exact congrArg Value.bool (by rw [decide_eq_false (by omega), decide_eq_false (by omega)]; rfl)), A16, B16, U16, D16, H16, O16, BW16⟩
      · subst hc; clear HC
        go_wp2
        go_meet
        exact ⟨(by first | rfl | exact congrArg Value.bool (decide_eq_false (by omega)) | exact congrArg Value.bool (by rw [decide_eq_false (by omega), decide_eq_false (by omega)]; rfl)), (by repeat (first | (with_reducible exact A15) | (with_reducible refine Row5.drew ?_))), (by repeat (first | (with_reducible exact B15) | (with_reducible refine Row5.drew ?_))), (by repeat (first | (with_reducible exact U15) | (with_reducible refine Row5.drew ?_))), (by repeat (first | (with_reducible exact D15) | (with_reducible refine Row5.drew ?_))), (by repeat (first | (with_reducible exact H15) | (with_reducible refine Row5.drew ?_))), (by repeat (first | (with_reducible exact O15) | (with_reducible refine Row5.drew ?_))), BW15⟩
      · subst hc; clear HC
        go_wp2
        go_meet
        exact ⟨(by first | rfl | exact congrArg Value.bool (decide_eq_false (by omega)) | exact congrArg Value.bool (by rw [decide_eq_false (by omega), decide_eq_false (by omega)]; rfl)), (by repeat (first | (with_reducible exact A15) | (with_reducible refine Row5.drew ?_))), (by repeat (first | (with_reducible exact B15) | (with_reducible refine Row5.drew ?_))), (by repeat (first | (with_reducible exact U15) | (with_reducible refine Row5.drew ?_))), (by repeat (first | (with_reducible exact D15) | (with_reducible refine Row5.drew ?_))), (by repeat (first | (with_reducible exact H15) | (with_reducible refine Row5.drew ?_))), (by repeat (first | (with_reducible exact O15) | (with_reducible refine Row5.drew ?_))), BW15⟩
      · subst hc; clear HC
        go_wp2
        go_meet
        exact ⟨(by first | rfl | exact congrArg Value.bool (decide_eq_false (by omega)) | exact congrArg Value.bool (by rw [decide_eq_false (by omega), decide_eq_false (by omega)]; rfl)), (by repeat (first | (with_reducible exact A15) | (with_reducible refine Row5.drew ?_))), (by repeat (first | (with_reducible exact B15) | (with_reducible refine Row5.drew ?_))), (by repeat (first | (with_reducible exact U15) | (with_reducible refine Row5.drew ?_))), (by repeat (first | (with_reducible exact D15) | (with_reducible refine Row5.drew ?_))), (by repeat (first | (with_reducible exact H15) | (with_reducible refine Row5.drew ?_))), (by repeat (first | (with_reducible exact O15) | (with_reducible refine Row5.drew ?_))), BW15⟩
    case rest =>
      generalize wc = w16 at *
      clear A15
      clear B15
      clear U15
      clear D15
      clear H15
      clear O15
      clear BW15
      obtain ⟨rfl, A16, B16, U16, D16, H16, O16, BW16⟩ := hcut
      clear HC F1 F2 F3 F4
      go_wp2_with fail
      refine (told2_true _ (tabs_on HT.out (by repeat (first | (with_reducible exact BW16) | (with_reducible refine bal ?_ _) | (with_reducible refine Below.drew ?_) | (with_reducible refine bdn ?_ _))))).mono ?_
      rintro e w17 ⟨rfl, hb⟩
      have BW17 : Below w.heap.size w w17 := btr (by repeat (first | (with_reducible exact BW16) | (with_reducible refine bal ?_ _) | (with_reducible refine Below.drew ?_) | (with_reducible refine bdn ?_ _))) hb
      have A17 : Row5 w17 w.heap.size (.bool ga) (.int .u64 a0) (.int .u64 a1) (.int .u64 a2) (.int .u64 a3) := Row5.keep hb (by repeat (first | (with_reducible exact A16) | (with_reducible refine Row5.alloc ?_ _) | (with_reducible refine Row5.drew ?_)))
      have B17 : Row5 w17 (w.heap.size + 1) (.bool gb) (.int .u64 b0) (.int .u64 b1) (.int .u64 b2) (.int .u64 b3) := Row5.keep hb (by repeat (first | (with_reducible exact B16) | (with_reducible refine Row5.alloc ?_ _) | (with_reducible refine Row5.drew ?_)))
      have U17 : Row5 w17 w3.heap.size (.bool gu) (.int .u64 u0) (.int .u64 u1) (.int .u64 u2) (.int .u64 u3) := Row5.keep hb (by repeat (first | (with_reducible exact U16) | (with_reducible refine Row5.alloc ?_ _) | (with_reducible refine Row5.drew ?_)))
      have D17 : Row5 w17 w5.heap.size (.bool gd) (.int .u64 d0) (.int .u64 d1) (.int .u64 d2) (.int .u64 d3) := Row5.keep hb (by repeat (first | (with_reducible exact D16) | (with_reducible refine Row5.alloc ?_ _) | (with_reducible refine Row5.drew ?_)))
      have H17 : Row5 w17 w7.heap.size (.bool gh) (.int .u64 h0) (.int .u64 h1) (.int .u64 h2) (.int .u64 h3) := Row5.keep hb (by repeat (first | (with_reducible exact H16) | (with_reducible refine Row5.alloc ?_ _) | (with_reducible refine Row5.drew ?_)))
      have O17 : Row5 w17 w9.heap.size (.bool go) (.int .u64 o0) (.int .u64 o1) (.int .u64 o2) (.int .u64 o3) := Row5.keep hb (by repeat (first | (with_reducible exact O16) | (with_reducible refine Row5.alloc ?_ _) | (with_reducible refine Row5.drew ?_)))
      clear A16 B16 U16 D16 H16 O16
      clear BW16
      clear hb
      obtain ⟨Ac0, Ac1, Ac2, Ac3, Ac4⟩ := A17.parts
      obtain ⟨Af0, Af1, Af2, Af3, Af4⟩ := A17.free
      obtain ⟨Uc0, Uc1, Uc2, Uc3, Uc4⟩ := U17.parts
      obtain ⟨Uf0, Uf1, Uf2, Uf3, Uf4⟩ := U17.free
      go_wp2_with fail
      refine (K11.out _ (tb_on HT.out.2 (by repeat (first | (with_reducible exact BW17) | (with_reducible refine bal ?_ _) | (with_reducible refine Below.drew ?_) | (with_reducible refine bdn ?_ _))))).mono ?_
      rintro e w18 ⟨rfl, hb⟩
      have BW18 : Below w.heap.size w w18 := btr (by repeat (first | (with_reducible exact BW17) | (with_reducible refine bal ?_ _) | (with_reducible refine Below.drew ?_) | (with_reducible refine bdn ?_ _))) hb
      have A18 : Row5 w18 w.heap.size (.bool ga) (.int .u64 a0) (.int .u64 a1) (.int .u64 a2) (.int .u64 a3) := Row5.keep hb (by repeat (first | (with_reducible exact A17) | (with_reducible refine Row5.alloc ?_ _) | (with_reducible refine Row5.drew ?_)))
      have B18 : Row5 w18 (w.heap.size + 1) (.bool gb) (.int .u64 b0) (.int .u64 b1) (.int .u64 b2) (.int .u64 b3) := Row5.keep hb (by repeat (first | (with_reducible exact B17) | (with_reducible refine Row5.alloc ?_ _) | (with_reducible refine Row5.drew ?_)))
      have U18 : Row5 w18 w3.heap.size (.bool gu) (.int .u64 u0) (.int .u64 u1) (.int .u64 u2) (.int .u64 u3) := Row5.keep hb (by repeat (first | (with_reducible exact U17) | (with_reducible refine Row5.alloc ?_ _) | (with_reducible refine Row5.drew ?_)))
      have D18 : Row5 w18 w5.heap.size (.bool gd) (.int .u64 d0) (.int .u64 d1) (.int .u64 d2) (.int .u64 d3) := Row5.keep hb (by repeat (first | (with_reducible exact D17) | (with_reducible refine Row5.alloc ?_ _) | (with_reducible refine Row5.drew ?_)))
      have H18 : Row5 w18 w7.heap.size (.bool gh) (.int .u64 h0) (.int .u64 h1) (.int .u64 h2) (.int .u64 h3) := Row5.keep hb (by repeat (first | (with_reducible exact H17) | (with_reducible refine Row5.alloc ?_ _) | (with_reducible refine Row5.drew ?_)))
      have O18 : Row5 w18 w9.heap.size (.bool go) (.int .u64 o0) (.int .u64 o1) (.int .u64 o2) (.int .u64 o3) := Row5.keep hb (by repeat (first | (with_reducible exact O17) | (with_reducible refine Row5.alloc ?_ _) | (with_reducible refine Row5.drew ?_)))
      clear A17 B17 U17 D17 H17 O17
      clear BW17
      clear hb
      obtain ⟨Ac0, Ac1, Ac2, Ac3, Ac4⟩ := A18.parts
      obtain ⟨Af0, Af1, Af2, Af3, Af4⟩ := A18.free
      obtain ⟨Uc0, Uc1, Uc2, Uc3, Uc4⟩ := U18.parts
      obtain ⟨Uf0, Uf1, Uf2, Uf3, Uf4⟩ := U18.free
      go_wp2_with fail
      (with_reducible refine (K12.out _).mono ?_)
      rintro e w19 ⟨rfl, hb⟩
      have BW19 : Below w.heap.size w w19 := btr (by repeat (first | (with_reducible exact BW18) | (with_reducible refine bal ?_ _) | (with_reducible refine Below.drew ?_) | (with_reducible refine bdn ?_ _))) hb
      have A19 : Row5 w19 w.heap.size (.bool ga) (.int .u64 a0) (.int .u64 a1) (.int .u64 a2) (.int .u64 a3) := Row5.keep hb (by repeat (first | (with_reducible exact A18) | (with_reducible refine Row5.alloc ?_ _) | (with_reducible refine Row5.drew ?_)))
      have B19 : Row5 w19 (w.heap.size + 1) (.bool gb) (.int .u64 b0) (.int .u64 b1) (.int .u64 b2) (.int .u64 b3) := Row5.keep hb (by repeat (first | (with_reducible exact B18) | (with_reducible refine Row5.alloc ?_ _) | (with_reducible refine Row5.drew ?_)))
      have U19 : Row5 w19 w3.heap.size (.bool gu) (.int .u64 u0) (.int .u64 u1) (.int .u64 u2) (.int .u64 u3) := Row5.keep hb (by repeat (first | (with_reducible exact U18) | (with_reducible refine Row5.alloc ?_ _) | (with_reducible refine Row5.drew ?_)))
      have D19 : Row5 w19 w5.heap.size (.bool gd) (.int .u64 d0) (.int .u64 d1) (.int .u64 d2) (.int .u64 d3) := Row5.keep hb (by repeat (first | (with_reducible exact D18) | (with_reducible refine Row5.alloc ?_ _) | (with_reducible refine Row5.drew ?_)))
      have H19 : Row5 w19 w7.heap.size (.bool gh) (.int .u64 h0) (.int .u64 h1) (.int .u64 h2) (.int .u64 h3) := Row5.keep hb (by repeat (first | (with_reducible exact H18) | (with_reducible refine Row5.alloc ?_ _) | (with_reducible refine Row5.drew ?_)))
      have O19 : Row5 w19 w9.heap.size (.bool go) (.int .u64 o0) (.int .u64 o1) (.int .u64 o2) (.int .u64 o3) := Row5.keep hb (by repeat (first | (with_reducible exact O18) | (with_reducible refine Row5.alloc ?_ _) | (with_reducible refine Row5.drew ?_)))
      clear A18 B18 U18 D18 H18 O18
      clear BW18
      clear hb
      obtain ⟨Ac0, Ac1, Ac2, Ac3, Ac4⟩ := A19.parts
      obtain ⟨Af0, Af1, Af2, Af3, Af4⟩ := A19.free
      obtain ⟨Dc0, Dc1, Dc2, Dc3, Dc4⟩ := D19.parts
      obtain ⟨Df0, Df1, Df2, Df3, Df4⟩ := D19.free
      go_wp2_with fail
      refine (K17.out _ (tb_on HT.out.2 (by repeat (first | (with_reducible exact BW19) | (with_reducible refine bal ?_ _) | (with_reducible refine Below.drew ?_) | (with_reducible refine bdn ?_ _))))).mono ?_
      rintro e w20 ⟨rfl, hb⟩
      have BW20 : Below w.heap.size w w20 := btr (by repeat (first | (with_reducible exact BW19) | (with_reducible refine bal ?_ _) | (with_reducible refine Below.drew ?_) | (with_reducible refine bdn ?_ _))) hb
      have A20 : Row5 w20 w.heap.size (.bool ga) (.int .u64 a0) (.int .u64 a1) (.int .u64 a2) (.int .u64 a3) := Row5.keep hb (by repeat (first | (with_reducible exact A19) | (with_reducible refine Row5.alloc ?_ _) | (with_reducible refine Row5.drew ?_)))
      have B20 : Row5 w20 (w.heap.size + 1) (.bool gb) (.int .u64 b0) (.int .u64 b1) (.int .u64 b2) (.int .u64 b3) := Row5.keep hb (by repeat (first | (with_reducible exact B19) | (with_reducible refine Row5.alloc ?_ _) | (with_reducible refine Row5.drew ?_)))
      have U20 : Row5 w20 w3.heap.size (.bool gu) (.int .u64 u0) (.int .u64 u1) (.int .u64 u2) (.int .u64 u3) := Row5.keep hb (by repeat (first | (with_reducible exact U19) | (with_reducible refine Row5.alloc ?_ _) | (with_reducible refine Row5.drew ?_)))
      have D20 : Row5 w20 w5.heap.size (.bool gd) (.int .u64 d0) (.int .u64 d1) (.int .u64 d2) (.int .u64 d3) := Row5.keep hb (by repeat (first | (with_reducible exact D19) | (with_reducible refine Row5.alloc ?_ _) | (with_reducible refine Row5.drew ?_)))
      have H20 : Row5 w20 w7.heap.size (.bool gh) (.int .u64 h0) (.int .u64 h1) (.int .u64 h2) (.int .u64 h3) := Row5.keep hb (by repeat (first | (with_reducible exact H19) | (with_reducible refine Row5.alloc ?_ _) | (with_reducible refine Row5.drew ?_)))
      have O20 : Row5 w20 w9.heap.size (.bool go) (.int .u64 o0) (.int .u64 o1) (.int .u64 o2) (.int .u64 o3) := Row5.keep hb (by repeat (first | (with_reducible exact O19) | (with_reducible refine Row5.alloc ?_ _) | (with_reducible refine Row5.drew ?_)))
      clear A19 B19 U19 D19 H19 O19
      clear BW19
      clear hb
      obtain ⟨Ac0, Ac1, Ac2, Ac3, Ac4⟩ := A20.parts
      obtain ⟨Af0, Af1, Af2, Af3, Af4⟩ := A20.free
      obtain ⟨Dc0, Dc1, Dc2, Dc3, Dc4⟩ := D20.parts
      obtain ⟨Df0, Df1, Df2, Df3, Df4⟩ := D20.free
      go_wp2_with fail
      (with_reducible refine (K18.out _).mono ?_)
      rintro e w21 ⟨rfl, hb⟩
      have BW21 : Below w.heap.size w w21 := btr (by repeat (first | (with_reducible exact BW20) | (with_reducible refine bal ?_ _) | (with_reducible refine Below.drew ?_) | (with_reducible refine bdn ?_ _))) hb
      have A21 : Row5 w21 w.heap.size (.bool ga) (.int .u64 a0) (.int .u64 a1) (.int .u64 a2) (.int .u64 a3) := Row5.keep hb (by repeat (first | (with_reducible exact A20) | (with_reducible refine Row5.alloc ?_ _) | (with_reducible refine Row5.drew ?_)))
      have B21 : Row5 w21 (w.heap.size + 1) (.bool gb) (.int .u64 b0) (.int .u64 b1) (.int .u64 b2) (.int .u64 b3) := Row5.keep hb (by repeat (first | (with_reducible exact B20) | (with_reducible refine Row5.alloc ?_ _) | (with_reducible refine Row5.drew ?_)))
      have U21 : Row5 w21 w3.heap.size (.bool gu) (.int .u64 u0) (.int .u64 u1) (.int .u64 u2) (.int .u64 u3) := Row5.keep hb (by repeat (first | (with_reducible exact U20) | (with_reducible refine Row5.alloc ?_ _) | (with_reducible refine Row5.drew ?_)))
      have D21 : Row5 w21 w5.heap.size (.bool gd) (.int .u64 d0) (.int .u64 d1) (.int .u64 d2) (.int .u64 d3) := Row5.keep hb (by repeat (first | (with_reducible exact D20) | (with_reducible refine Row5.alloc ?_ _) | (with_reducible refine Row5.drew ?_)))
      have H21 : Row5 w21 w7.heap.size (.bool gh) (.int .u64 h0) (.int .u64 h1) (.int .u64 h2) (.int .u64 h3) := Row5.keep hb (by repeat (first | (with_reducible exact H20) | (with_reducible refine Row5.alloc ?_ _) | (with_reducible refine Row5.drew ?_)))
      have O21 : Row5 w21 w9.heap.size (.bool go) (.int .u64 o0) (.int .u64 o1) (.int .u64 o2) (.int .u64 o3) := Row5.keep hb (by repeat (first | (with_reducible exact O20) | (with_reducible refine Row5.alloc ?_ _) | (with_reducible refine Row5.drew ?_)))
      clear A20 B20 U20 D20 H20 O20
      clear BW20
      clear hb
      obtain ⟨Ac0, Ac1, Ac2, Ac3, Ac4⟩ := A21.parts
      obtain ⟨Af0, Af1, Af2, Af3, Af4⟩ := A21.free
      obtain ⟨Hc0, Hc1, Hc2, Hc3, Hc4⟩ := H21.parts
      obtain ⟨Hf0, Hf1, Hf2, Hf3, Hf4⟩ := H21.free
      go_wp2_with fail
      refine (K13.out _ (tb_on HT.out.2 (by repeat (first | (with_reducible exact BW21) | (with_reducible refine bal ?_ _) | (with_reducible refine Below.drew ?_) | (with_reducible refine bdn ?_ _))))).mono ?_
      rintro e w22 ⟨rfl, hb⟩
      have BW22 : Below w.heap.size w w22 := btr (by repeat (first | (with_reducible exact BW21) | (with_reducible refine bal ?_ _) | (with_reducible refine Below.drew ?_) | (with_reducible refine bdn ?_ _))) hb
      have A22 : Row5 w22 w.heap.size (.bool ga) (.int .u64 a0) (.int .u64 a1) (.int .u64 a2) (.int .u64 a3) := Row5.keep hb (by repeat (first | (with_reducible exact A21) | (with_reducible refine Row5.alloc ?_ _) | (with_reducible refine Row5.drew ?_)))
      have B22 : Row5 w22 (w.heap.size + 1) (.bool gb) (.int .u64 b0) (.int .u64 b1) (.int .u64 b2) (.int .u64 b3) := Row5.keep hb (by repeat (first | (with_reducible exact B21) | (with_reducible refine Row5.alloc ?_ _) | (with_reducible refine Row5.drew ?_)))
      have U22 : Row5 w22 w3.heap.size (.bool gu) (.int .u64 u0) (.int .u64 u1) (.int .u64 u2) (.int .u64 u3) := Row5.keep hb (by repeat (first | (with_reducible exact U21) | (with_reducible refine Row5.alloc ?_ _) | (with_reducible refine Row5.drew ?_)))
      have D22 : Row5 w22 w5.heap.size (.bool gd) (.int .u64 d0) (.int .u64 d1) (.int .u64 d2) (.int .u64 d3) := Row5.keep hb (by repeat (first | (with_reducible exact D21) | (with_reducible refine Row5.alloc ?_ _) | (with_reducible refine Row5.drew ?_)))
      have H22 : Row5 w22 w7.heap.size (.bool gh) (.int .u64 h0) (.int .u64 h1) (.int .u64 h2) (.int .u64 h3) := Row5.keep hb (by repeat (first | (with_reducible exact H21) | (with_reducible refine Row5.alloc ?_ _) | (with_reducible refine Row5.drew ?_)))
      have O22 : Row5 w22 w9.heap.size (.bool go) (.int .u64 o0) (.int .u64 o1) (.int .u64 o2) (.int .u64 o3) := Row5.keep hb (by repeat (first | (with_reducible exact O21) | (with_reducible refine Row5.alloc ?_ _) | (with_reducible refine Row5.drew ?_)))
      clear A21 B21 U21 D21 H21 O21
      clear BW21
      clear hb
      obtain ⟨Ac0, Ac1, Ac2, Ac3, Ac4⟩ := A22.parts
      obtain ⟨Af0, Af1, Af2, Af3, Af4⟩ := A22.free
      obtain ⟨Hc0, Hc1, Hc2, Hc3, Hc4⟩ := H22.parts
      obtain ⟨Hf0, Hf1, Hf2, Hf3, Hf4⟩ := H22.free
      go_wp2_with fail
      (with_reducible refine (K14.out _).mono ?_)
      rintro e w23 ⟨rfl, hb⟩
      have BW23 : Below w.heap.size w w23 := btr (by repeat (first | (with_reducible exact BW22) | (with_reducible refine bal ?_ _) | (with_reducible refine Below.drew ?_) | (with_reducible refine bdn ?_ _))) hb
      have A23 : Row5 w23 w.heap.size (.bool ga) (.int .u64 a0) (.int .u64 a1) (.int .u64 a2) (.int .u64 a3) := Row5.keep hb (by repeat (first | (with_reducible exact A22) | (with_reducible refine Row5.alloc ?_ _) | (with_reducible refine Row5.drew ?_)))
      have B23 : Row5 w23 (w.heap.size + 1) (.bool gb) (.int .u64 b0) (.int .u64 b1) (.int .u64 b2) (.int .u64 b3) := Row5.keep hb (by repeat (first | (with_reducible exact B22) | (with_reducible refine Row5.alloc ?_ _) | (with_reducible refine Row5.drew ?_)))
      have U23 : Row5 w23 w3.heap.size (.bool gu) (.int .u64 u0) (.int .u64 u1) (.int .u64 u2) (.int .u64 u3) := Row5.keep hb (by repeat (first | (with_reducible exact U22) | (with_reducible refine Row5.alloc ?_ _) | (with_reducible refine Row5.drew ?_)))
      have D23 : Row5 w23 w5.heap.size (.bool gd) (.int .u64 d0) (.int .u64 d1) (.int .u64 d2) (.int .u64 d3) := Row5.keep hb (by repeat (first | (with_reducible exact D22) | (with_reducible refine Row5.alloc ?_ _) | (with_reducible refine Row5.drew ?_)))
      have H23 : Row5 w23 w7.heap.size (.bool gh) (.int .u64 h0) (.int .u64 h1) (.int .u64 h2) (.int .u64 h3) := Row5.keep hb (by repeat (first | (with_reducible exact H22) | (with_reducible refine Row5.alloc ?_ _) | (with_reducible refine Row5.drew ?_)))
      have O23 : Row5 w23 w9.heap.size (.bool go) (.int .u64 o0) (.int .u64 o1) (.int .u64 o2) (.int .u64 o3) := Row5.keep hb (by repeat (first | (with_reducible exact O22) | (with_reducible refine Row5.alloc ?_ _) | (with_reducible refine Row5.drew ?_)))
      clear A22 B22 U22 D22 H22 O22
      clear BW22
      clear hb
      obtain ⟨Ac0, Ac1, Ac2, Ac3, Ac4⟩ := A23.parts
      obtain ⟨Af0, Af1, Af2, Af3, Af4⟩ := A23.free
      obtain ⟨Oc0, Oc1, Oc2, Oc3, Oc4⟩ := O23.parts
      obtain ⟨Of0, Of1, Of2, Of3, Of4⟩ := O23.free
      go_wp2_with fail
      refine (K15.out _ (tb_on HT.out.2 (by repeat (first | (with_reducible exact BW23) | (with_reducible refine bal ?_ _) | (with_reducible refine Below.drew ?_) | (with_reducible refine bdn ?_ _))))).mono ?_
      rintro e w24 ⟨rfl, hb⟩
      have BW24 : Below w.heap.size w w24 := btr (by repeat (first | (with_reducible exact BW23) | (with_reducible refine bal ?_ _) | (with_reducible refine Below.drew ?_) | (with_reducible refine bdn ?_ _))) hb
      have A24 : Row5 w24 w.heap.size (.bool ga) (.int .u64 a0) (.int .u64 a1) (.int .u64 a2) (.int .u64 a3) := Row5.keep hb (by repeat (first | (with_reducible exact A23) | (with_reducible refine Row5.alloc ?_ _) | (with_reducible refine Row5.drew ?_)))
      have B24 : Row5 w24 (w.heap.size + 1) (.bool gb) (.int .u64 b0) (.int .u64 b1) (.int .u64 b2) (.int .u64 b3) := Row5.keep hb (by repeat (first | (with_reducible exact B23) | (with_reducible refine Row5.alloc ?_ _) | (with_reducible refine Row5.drew ?_)))
      have U24 : Row5 w24 w3.heap.size (.bool gu) (.int .u64 u0) (.int .u64 u1) (.int .u64 u2) (.int .u64 u3) := Row5.keep hb (by repeat (first | (with_reducible exact U23) | (with_reducible refine Row5.alloc ?_ _) | (with_reducible refine Row5.drew ?_)))
      have D24 : Row5 w24 w5.heap.size (.bool gd) (.int .u64 d0) (.int .u64 d1) (.int .u64 d2) (.int .u64 d3) := Row5.keep hb (by repeat (first | (with_reducible exact D23) | (with_reducible refine Row5.alloc ?_ _) | (with_reducible refine Row5.drew ?_)))
      have H24 : Row5 w24 w7.heap.size (.bool gh) (.int .u64 h0) (.int .u64 h1) (.int .u64 h2) (.int .u64 h3) := Row5.keep hb (by repeat (first | (with_reducible exact H23) | (with_reducible refine Row5.alloc ?_ _) | (with_reducible refine Row5.drew ?_)))
      have O24 : Row5 w24 w9.heap.size (.bool go) (.int .u64 o0) (.int .u64 o1) (.int .u64 o2) (.int .u64 o3) := Row5.keep hb (by repeat (first | (with_reducible exact O23) | (with_reducible refine Row5.alloc ?_ _) | (with_reducible refine Row5.drew ?_)))
      clear A23 B23 U23 D23 H23 O23
      clear BW23
      clear hb
      obtain ⟨Ac0, Ac1, Ac2, Ac3, Ac4⟩ := A24.parts
      obtain ⟨Af0, Af1, Af2, Af3, Af4⟩ := A24.free
      obtain ⟨Oc0, Oc1, Oc2, Oc3, Oc4⟩ := O24.parts
      obtain ⟨Of0, Of1, Of2, Of3, Of4⟩ := O24.free
      go_wp2_with fail
      (with_reducible refine (K16.out _).mono ?_)
      rintro e w25 ⟨rfl, hb⟩
      have BW25 : Below w.heap.size w w25 := btr (by repeat (first | (with_reducible exact BW24) | (with_reducible refine bal ?_ _) | (with_reducible refine Below.drew ?_) | (with_reducible refine bdn ?_ _))) hb
      have A25 : Row5 w25 w.heap.size (.bool ga) (.int .u64 a0) (.int .u64 a1) (.int .u64 a2) (.int .u64 a3) := Row5.keep hb (by repeat (first | (with_reducible exact A24) | (with_reducible refine Row5.alloc ?_ _) | (with_reducible refine Row5.drew ?_)))
      have B25 : Row5 w25 (w.heap.size + 1) (.bool gb) (.int .u64 b0) (.int .u64 b1) (.int .u64 b2) (.int .u64 b3) := Row5.keep hb (by repeat (first | (with_reducible exact B24) | (with_reducible refine Row5.alloc ?_ _) | (with_reducible refine Row5.drew ?_)))
      have U25 : Row5 w25 w3.heap.size (.bool gu) (.int .u64 u0) (.int .u64 u1) (.int .u64 u2) (.int .u64 u3) := Row5.keep hb (by repeat (first | (with_reducible exact U24) | (with_reducible refine Row5.alloc ?_ _) | (with_reducible refine Row5.drew ?_)))
      have D25 : Row5 w25 w5.heap.size (.bool gd) (.int .u64 d0) (.int .u64 d1) (.int .u64 d2) (.int .u64 d3) := Row5.keep hb (by repeat (first | (with_reducible exact D24) | (with_reducible refine Row5.alloc ?_ _) | (with_reducible refine Row5.drew ?_)))
      have H25 : Row5 w25 w7.heap.size (.bool gh) (.int .u64 h0) (.int .u64 h1) (.int .u64 h2) (.int .u64 h3) := Row5.keep hb (by repeat (first | (with_reducible exact H24) | (with_reducible refine Row5.alloc ?_ _) | (with_reducible refine Row5.drew ?_)))
      have O25 : Row5 w25 w9.heap.size (.bool go) (.int .u64 o0) (.int .u64 o1) (.int .u64 o2) (.int .u64 o3) := Row5.keep hb (by repeat (first | (with_reducible exact O24) | (with_reducible refine Row5.alloc ?_ _) | (with_reducible refine Row5.drew ?_)))
      clear A24 B24 U24 D24 H24 O24
      clear BW24
      clear hb
      go_wp2
      go_ret
      exact ⟨rfl, BW25⟩

set_option maxHeartbeats 20000000 in
set_option maxRecDepth 100000 in
theorem near_tf (ex : Bool) (ga gb gu gd gh go : Bool) (a0 a1 a2 a3 b0 b1 b2 b3 u0 u1 u2 u3 d0 d1 d2 d3 h0 h1 h2 h3 o0 o1 o2 o3 c ch co cha coa cu cua : Int) (hc : c = -1 ∨ c = 0 ∨ c = 1)
    (f1 : ex = true → 0 ≤ c → cu ≤ 0) (f2 : ex = true → 0 < c) (f3 : ex = false → 0 ≤ c → ch ≤ 0) (f4 : ex = false → c ≤ 0 → 0 ≤ co)
    (i1 : 0 ≤ cua) (i3 : 0 ≤ cha) (i4 : coa ≤ 0)
    (m0 : ∀ W, Calls Tryd.prog 46 #[.agg #[.bool ga, .int .u64 a0, .int .u64 a1, .int .u64 a2, .int .u64 a3]] W fun e w' => e = .returned (.bool true) ∧ Below W.heap.size W w')
    (m1 : ∀ W, Calls Tryd.prog 46 #[.agg #[.bool gb, .int .u64 b0, .int .u64 b1, .int .u64 b2, .int .u64 b3]] W fun e w' => e = .returned (.bool true) ∧ Below W.heap.size W w')
    (k1 : ∀ W, Tb W → Calls Tryd.prog 66 #[.agg #[.bool ga, .int .u64 a0, .int .u64 a1, .int .u64 a2, .int .u64 a3]] W fun e w' => e = .returned (.tuple #[.agg #[.bool gu, .int .u64 u0, .int .u64 u1, .int .u64 u2, .int .u64 u3], .bool true]) ∧ Below W.heap.size W w')
    (k2 : ∀ W, Tb W → Calls Tryd.prog 68 #[.agg #[.bool ga, .int .u64 a0, .int .u64 a1, .int .u64 a2, .int .u64 a3]] W fun e w' => e = .returned (.tuple #[.agg #[.bool gd, .int .u64 d0, .int .u64 d1, .int .u64 d2, .int .u64 d3], .bool false]) ∧ Below W.heap.size W w')
    (k3 : ∀ W, Tb W → Calls Tryd.prog 69 #[.agg #[.bool ga, .int .u64 a0, .int .u64 a1, .int .u64 a2, .int .u64 a3]] W fun e w' => e = .returned (.tuple #[.agg #[.bool gh, .int .u64 h0, .int .u64 h1, .int .u64 h2, .int .u64 h3], .bool true]) ∧ Below W.heap.size W w')
    (k4 : ∀ W, Tb W → Calls Tryd.prog 70 #[.agg #[.bool ga, .int .u64 a0, .int .u64 a1, .int .u64 a2, .int .u64 a3]] W fun e w' => e = .returned (.tuple #[.agg #[.bool go, .int .u64 o0, .int .u64 o1, .int .u64 o2, .int .u64 o3], .bool true]) ∧ Below W.heap.size W w')
    (k5 : ∀ W, Tb W → Calls Tryd.prog 71 #[.agg #[.bool gb, .int .u64 b0, .int .u64 b1, .int .u64 b2, .int .u64 b3]] W fun e w' => e = .returned (.bool ex) ∧ Below W.heap.size W w')
    (k6 : ∀ W, Calls Tryd.prog 61 #[.agg #[.bool gb, .int .u64 b0, .int .u64 b1, .int .u64 b2, .int .u64 b3], .agg #[.bool ga, .int .u64 a0, .int .u64 a1, .int .u64 a2, .int .u64 a3]] W fun e w' => e = .returned (.int .i64 c) ∧ Below W.heap.size W w')
    (k9 : ∀ W, Calls Tryd.prog 61 #[.agg #[.bool gh, .int .u64 h0, .int .u64 h1, .int .u64 h2, .int .u64 h3], .agg #[.bool gb, .int .u64 b0, .int .u64 b1, .int .u64 b2, .int .u64 b3]] W fun e w' => e = .returned (.int .i64 ch) ∧ Below W.heap.size W w')
    (k10 : ∀ W, Calls Tryd.prog 61 #[.agg #[.bool go, .int .u64 o0, .int .u64 o1, .int .u64 o2, .int .u64 o3], .agg #[.bool gb, .int .u64 b0, .int .u64 b1, .int .u64 b2, .int .u64 b3]] W fun e w' => e = .returned (.int .i64 co) ∧ Below W.heap.size W w')
    (k13 : ∀ W, Tb W → Calls Tryd.prog 71 #[.agg #[.bool gh, .int .u64 h0, .int .u64 h1, .int .u64 h2, .int .u64 h3]] W fun e w' => e = .returned (.bool false) ∧ Below W.heap.size W w')
    (k14 : ∀ W, Calls Tryd.prog 61 #[.agg #[.bool gh, .int .u64 h0, .int .u64 h1, .int .u64 h2, .int .u64 h3], .agg #[.bool ga, .int .u64 a0, .int .u64 a1, .int .u64 a2, .int .u64 a3]] W fun e w' => e = .returned (.int .i64 cha) ∧ Below W.heap.size W w')
    (k15 : ∀ W, Tb W → Calls Tryd.prog 71 #[.agg #[.bool go, .int .u64 o0, .int .u64 o1, .int .u64 o2, .int .u64 o3]] W fun e w' => e = .returned (.bool false) ∧ Below W.heap.size W w')
    (k16 : ∀ W, Calls Tryd.prog 61 #[.agg #[.bool go, .int .u64 o0, .int .u64 o1, .int .u64 o2, .int .u64 o3], .agg #[.bool ga, .int .u64 a0, .int .u64 a1, .int .u64 a2, .int .u64 a3]] W fun e w' => e = .returned (.int .i64 coa) ∧ Below W.heap.size W w')
    (k7 : ∀ W, Calls Tryd.prog 61 #[.agg #[.bool gu, .int .u64 u0, .int .u64 u1, .int .u64 u2, .int .u64 u3], .agg #[.bool gb, .int .u64 b0, .int .u64 b1, .int .u64 b2, .int .u64 b3]] W fun e w' => e = .returned (.int .i64 cu) ∧ Below W.heap.size W w')
    (k11 : ∀ W, Tb W → Calls Tryd.prog 71 #[.agg #[.bool gu, .int .u64 u0, .int .u64 u1, .int .u64 u2, .int .u64 u3]] W fun e w' => e = .returned (.bool true) ∧ Below W.heap.size W w')
    (k12 : ∀ W, Calls Tryd.prog 61 #[.agg #[.bool gu, .int .u64 u0, .int .u64 u1, .int .u64 u2, .int .u64 u3], .agg #[.bool ga, .int .u64 a0, .int .u64 a1, .int .u64 a2, .int .u64 a3]] W fun e w' => e = .returned (.int .i64 cua) ∧ Below W.heap.size W w') (w : World) (hT : Tabs w) :
    Calls Tryd.prog 12 #[.agg #[.bool ga, .int .u64 a0, .int .u64 a1, .int .u64 a2, .int .u64 a3], .agg #[.bool gb, .int .u64 b0, .int .u64 b1, .int .u64 b2, .int .u64 b3]] w fun e w' => e = .returned (.bool true) ∧ Below w.heap.size w w' := by
  have M0 := Lib.hid m0; clear m0
  have M1 := Lib.hid m1; clear m1
  have K1 := Lib.hid k1; clear k1
  have K2 := Lib.hid k2; clear k2
  have K3 := Lib.hid k3; clear k3
  have K4 := Lib.hid k4; clear k4
  have K5 := Lib.hid k5; clear k5
  have K6 := Lib.hid k6; clear k6
  have K9 := Lib.hid k9; clear k9
  have K10 := Lib.hid k10; clear k10
  have K13 := Lib.hid k13; clear k13
  have K14 := Lib.hid k14; clear k14
  have K15 := Lib.hid k15; clear k15
  have K16 := Lib.hid k16; clear k16
  have K7 := Lib.hid k7; clear k7
  have K11 := Lib.hid k11; clear k11
  have K12 := Lib.hid k12; clear k12
  have HC := Lib.hid hc; clear hc
  have F1 := Lib.hid f1; clear f1
  have F2 := Lib.hid f2; clear f2
  have F3 := Lib.hid f3; clear f3
  have F4 := Lib.hid f4; clear f4
  have HT := Lib.hid hT; clear hT
  go_enter Tryd.func12, Tryd.ntmps12
  go_wp2_with fail
  (with_reducible refine (M0.out _).mono ?_)
  rintro e w1 ⟨rfl, hb⟩
  have BW1 : Below w.heap.size w w1 := btr (by repeat (first | (with_reducible exact Below.refl _ _) | (with_reducible refine bal ?_ _) | (with_reducible refine Below.drew ?_) | (with_reducible refine bdn ?_ _))) hb
  have A1 : Row5 w1 w.heap.size (.bool ga) (.int .u64 a0) (.int .u64 a1) (.int .u64 a2) (.int .u64 a3) := Row5.keep hb (by repeat (first | (with_reducible exact Row5.new _ _ _ _ _ _) | ((with_reducible refine Row5.new' _ ?_ _ _ _ _ _); (simp; done)) | (with_reducible refine Row5.alloc ?_ _) | (with_reducible refine Row5.drew ?_)))
  have B1 : Row5 w1 (w.heap.size + 1) (.bool gb) (.int .u64 b0) (.int .u64 b1) (.int .u64 b2) (.int .u64 b3) := Row5.keep hb (by repeat (first | (with_reducible exact Row5.new _ _ _ _ _ _) | ((with_reducible refine Row5.new' _ ?_ _ _ _ _ _); (simp; done)) | (with_reducible refine Row5.alloc ?_ _) | (with_reducible refine Row5.drew ?_)))
  clear hb
  obtain ⟨Bc0, Bc1, Bc2, Bc3, Bc4⟩ := B1.parts
  obtain ⟨Bf0, Bf1, Bf2, Bf3, Bf4⟩ := B1.free
  go_wp2_with fail
  (with_reducible refine (M1.out _).mono ?_)
  rintro e w2 ⟨rfl, hb⟩
  have BW2 : Below w.heap.size w w2 := btr (by repeat (first | (with_reducible exact BW1) | (with_reducible refine bal ?_ _) | (with_reducible refine Below.drew ?_) | (with_reducible refine bdn ?_ _))) hb
  have A2 : Row5 w2 w.heap.size (.bool ga) (.int .u64 a0) (.int .u64 a1) (.int .u64 a2) (.int .u64 a3) := Row5.keep hb (by repeat (first | (with_reducible exact A1) | (with_reducible refine Row5.alloc ?_ _) | (with_reducible refine Row5.drew ?_)))
  have B2 : Row5 w2 (w.heap.size + 1) (.bool gb) (.int .u64 b0) (.int .u64 b1) (.int .u64 b2) (.int .u64 b3) := Row5.keep hb (by repeat (first | (with_reducible exact B1) | (with_reducible refine Row5.alloc ?_ _) | (with_reducible refine Row5.drew ?_)))
  clear A1 B1
  clear BW1
  clear hb
  obtain ⟨Ac0, Ac1, Ac2, Ac3, Ac4⟩ := A2.parts
  obtain ⟨Af0, Af1, Af2, Af3, Af4⟩ := A2.free
  go_wp2_with fail
  refine (K1.out _ (tb_on HT.out.2 (by repeat (first | (with_reducible exact BW2) | (with_reducible refine bal ?_ _) | (with_reducible refine Below.drew ?_) | (with_reducible refine bdn ?_ _))))).mono ?_
  rintro e w3 ⟨rfl, hb⟩
  have BW3 : Below w.heap.size w w3 := btr (by repeat (first | (with_reducible exact BW2) | (with_reducible refine bal ?_ _) | (with_reducible refine Below.drew ?_) | (with_reducible refine bdn ?_ _))) hb
  have A3 : Row5 w3 w.heap.size (.bool ga) (.int .u64 a0) (.int .u64 a1) (.int .u64 a2) (.int .u64 a3) := Row5.keep hb (by repeat (first | (with_reducible exact A2) | (with_reducible refine Row5.alloc ?_ _) | (with_reducible refine Row5.drew ?_)))
  have B3 : Row5 w3 (w.heap.size + 1) (.bool gb) (.int .u64 b0) (.int .u64 b1) (.int .u64 b2) (.int .u64 b3) := Row5.keep hb (by repeat (first | (with_reducible exact B2) | (with_reducible refine Row5.alloc ?_ _) | (with_reducible refine Row5.drew ?_)))
  clear A2 B2
  clear BW2
  clear hb
  go_upto_region 4 with (fail)
  go_name_world w4 hw4
  have BW4 : Below w.heap.size w w4 := by rw [← hw4]; repeat (first | (with_reducible exact BW3) | (with_reducible refine bal ?_ _) | (with_reducible refine Below.drew ?_) | (with_reducible refine bdn ?_ _))
  have A4 : Row5 w4 w.heap.size (.bool ga) (.int .u64 a0) (.int .u64 a1) (.int .u64 a2) (.int .u64 a3) := by rw [← hw4]; exact (by repeat (first | (with_reducible exact A3) | (with_reducible refine Row5.alloc ?_ _) | (with_reducible refine Row5.drew ?_)))
  have B4 : Row5 w4 (w.heap.size + 1) (.bool gb) (.int .u64 b0) (.int .u64 b1) (.int .u64 b2) (.int .u64 b3) := by rw [← hw4]; exact (by repeat (first | (with_reducible exact B3) | (with_reducible refine Row5.alloc ?_ _) | (with_reducible refine Row5.drew ?_)))
  have apU_A := A3.lt
  have apU_B := B3.lt
  have apU_0 := (BW3).size
  have U4 : Row5 w4 w3.heap.size (.bool gu) (.int .u64 u0) (.int .u64 u1) (.int .u64 u2) (.int .u64 u3) := by rw [← hw4]; exact (by repeat (first | (with_reducible exact Row5.new _ _ _ _ _ _) | ((with_reducible refine Row5.new' _ ?_ _ _ _ _ _); (simp; done)) | (with_reducible refine Row5.alloc ?_ _) | (with_reducible refine Row5.drew ?_)))
  clear A3 B3
  clear BW3
  clear hw4
  obtain ⟨Ac0, Ac1, Ac2, Ac3, Ac4⟩ := A4.parts
  obtain ⟨Af0, Af1, Af2, Af3, Af4⟩ := A4.free
  go_wp2_with fail
  refine (K2.out _ (tb_on HT.out.2 (by repeat (first | (with_reducible exact BW4) | (with_reducible refine bal ?_ _) | (with_reducible refine Below.drew ?_) | (with_reducible refine bdn ?_ _))))).mono ?_
  rintro e w5 ⟨rfl, hb⟩
  have BW5 : Below w.heap.size w w5 := btr (by repeat (first | (with_reducible exact BW4) | (with_reducible refine bal ?_ _) | (with_reducible refine Below.drew ?_) | (with_reducible refine bdn ?_ _))) hb
  have A5 : Row5 w5 w.heap.size (.bool ga) (.int .u64 a0) (.int .u64 a1) (.int .u64 a2) (.int .u64 a3) := Row5.keep hb (by repeat (first | (with_reducible exact A4) | (with_reducible refine Row5.alloc ?_ _) | (with_reducible refine Row5.drew ?_)))
  have B5 : Row5 w5 (w.heap.size + 1) (.bool gb) (.int .u64 b0) (.int .u64 b1) (.int .u64 b2) (.int .u64 b3) := Row5.keep hb (by repeat (first | (with_reducible exact B4) | (with_reducible refine Row5.alloc ?_ _) | (with_reducible refine Row5.drew ?_)))
  have U5 : Row5 w5 w3.heap.size (.bool gu) (.int .u64 u0) (.int .u64 u1) (.int .u64 u2) (.int .u64 u3) := Row5.keep hb (by repeat (first | (with_reducible exact U4) | (with_reducible refine Row5.alloc ?_ _) | (with_reducible refine Row5.drew ?_)))
  clear A4 B4 U4
  clear BW4
  clear hb
  go_upto_region 5 with (fail)
  go_name_world w6 hw6
  have BW6 : Below w.heap.size w w6 := by rw [← hw6]; repeat (first | (with_reducible exact BW5) | (with_reducible refine bal ?_ _) | (with_reducible refine Below.drew ?_) | (with_reducible refine bdn ?_ _))
  have A6 : Row5 w6 w.heap.size (.bool ga) (.int .u64 a0) (.int .u64 a1) (.int .u64 a2) (.int .u64 a3) := by rw [← hw6]; exact (by repeat (first | (with_reducible exact A5) | (with_reducible refine Row5.alloc ?_ _) | (with_reducible refine Row5.drew ?_)))
  have B6 : Row5 w6 (w.heap.size + 1) (.bool gb) (.int .u64 b0) (.int .u64 b1) (.int .u64 b2) (.int .u64 b3) := by rw [← hw6]; exact (by repeat (first | (with_reducible exact B5) | (with_reducible refine Row5.alloc ?_ _) | (with_reducible refine Row5.drew ?_)))
  have U6 : Row5 w6 w3.heap.size (.bool gu) (.int .u64 u0) (.int .u64 u1) (.int .u64 u2) (.int .u64 u3) := by rw [← hw6]; exact (by repeat (first | (with_reducible exact U5) | (with_reducible refine Row5.alloc ?_ _) | (with_reducible refine Row5.drew ?_)))
  have apD_A := A5.lt
  have apD_B := B5.lt
  have apD_U := U5.lt
  have apD_0 := (BW5).size
  have D6 : Row5 w6 w5.heap.size (.bool gd) (.int .u64 d0) (.int .u64 d1) (.int .u64 d2) (.int .u64 d3) := by rw [← hw6]; exact (by repeat (first | (with_reducible exact Row5.new _ _ _ _ _ _) | ((with_reducible refine Row5.new' _ ?_ _ _ _ _ _); (simp; done)) | (with_reducible refine Row5.alloc ?_ _) | (with_reducible refine Row5.drew ?_)))
  clear A5 B5 U5
  clear BW5
  clear hw6
  obtain ⟨Ac0, Ac1, Ac2, Ac3, Ac4⟩ := A6.parts
  obtain ⟨Af0, Af1, Af2, Af3, Af4⟩ := A6.free
  go_wp2_with fail
  refine (K3.out _ (tb_on HT.out.2 (by repeat (first | (with_reducible exact BW6) | (with_reducible refine bal ?_ _) | (with_reducible refine Below.drew ?_) | (with_reducible refine bdn ?_ _))))).mono ?_
  rintro e w7 ⟨rfl, hb⟩
  have BW7 : Below w.heap.size w w7 := btr (by repeat (first | (with_reducible exact BW6) | (with_reducible refine bal ?_ _) | (with_reducible refine Below.drew ?_) | (with_reducible refine bdn ?_ _))) hb
  have A7 : Row5 w7 w.heap.size (.bool ga) (.int .u64 a0) (.int .u64 a1) (.int .u64 a2) (.int .u64 a3) := Row5.keep hb (by repeat (first | (with_reducible exact A6) | (with_reducible refine Row5.alloc ?_ _) | (with_reducible refine Row5.drew ?_)))
  have B7 : Row5 w7 (w.heap.size + 1) (.bool gb) (.int .u64 b0) (.int .u64 b1) (.int .u64 b2) (.int .u64 b3) := Row5.keep hb (by repeat (first | (with_reducible exact B6) | (with_reducible refine Row5.alloc ?_ _) | (with_reducible refine Row5.drew ?_)))
  have U7 : Row5 w7 w3.heap.size (.bool gu) (.int .u64 u0) (.int .u64 u1) (.int .u64 u2) (.int .u64 u3) := Row5.keep hb (by repeat (first | (with_reducible exact U6) | (with_reducible refine Row5.alloc ?_ _) | (with_reducible refine Row5.drew ?_)))
  have D7 : Row5 w7 w5.heap.size (.bool gd) (.int .u64 d0) (.int .u64 d1) (.int .u64 d2) (.int .u64 d3) := Row5.keep hb (by repeat (first | (with_reducible exact D6) | (with_reducible refine Row5.alloc ?_ _) | (with_reducible refine Row5.drew ?_)))
  clear A6 B6 U6 D6
  clear BW6
  clear hb
  go_upto_region 6 with (fail)
  go_name_world w8 hw8
  have BW8 : Below w.heap.size w w8 := by rw [← hw8]; repeat (first | (with_reducible exact BW7) | (with_reducible refine bal ?_ _) | (with_reducible refine Below.drew ?_) | (with_reducible refine bdn ?_ _))
  have A8 : Row5 w8 w.heap.size (.bool ga) (.int .u64 a0) (.int .u64 a1) (.int .u64 a2) (.int .u64 a3) := by rw [← hw8]; exact (by repeat (first | (with_reducible exact A7) | (with_reducible refine Row5.alloc ?_ _) | (with_reducible refine Row5.drew ?_)))
  have B8 : Row5 w8 (w.heap.size + 1) (.bool gb) (.int .u64 b0) (.int .u64 b1) (.int .u64 b2) (.int .u64 b3) := by rw [← hw8]; exact (by repeat (first | (with_reducible exact B7) | (with_reducible refine Row5.alloc ?_ _) | (with_reducible refine Row5.drew ?_)))
  have U8 : Row5 w8 w3.heap.size (.bool gu) (.int .u64 u0) (.int .u64 u1) (.int .u64 u2) (.int .u64 u3) := by rw [← hw8]; exact (by repeat (first | (with_reducible exact U7) | (with_reducible refine Row5.alloc ?_ _) | (with_reducible refine Row5.drew ?_)))
  have D8 : Row5 w8 w5.heap.size (.bool gd) (.int .u64 d0) (.int .u64 d1) (.int .u64 d2) (.int .u64 d3) := by rw [← hw8]; exact (by repeat (first | (with_reducible exact D7) | (with_reducible refine Row5.alloc ?_ _) | (with_reducible refine Row5.drew ?_)))
  have apH_A := A7.lt
  have apH_B := B7.lt
  have apH_U := U7.lt
  have apH_D := D7.lt
  have apH_0 := (BW7).size
  have H8 : Row5 w8 w7.heap.size (.bool gh) (.int .u64 h0) (.int .u64 h1) (.int .u64 h2) (.int .u64 h3) := by rw [← hw8]; exact (by repeat (first | (with_reducible exact Row5.new _ _ _ _ _ _) | ((with_reducible refine Row5.new' _ ?_ _ _ _ _ _); (simp; done)) | (with_reducible refine Row5.alloc ?_ _) | (with_reducible refine Row5.drew ?_)))
  clear A7 B7 U7 D7
  clear BW7
  clear hw8
  obtain ⟨Ac0, Ac1, Ac2, Ac3, Ac4⟩ := A8.parts
  obtain ⟨Af0, Af1, Af2, Af3, Af4⟩ := A8.free
  go_wp2_with fail
  refine (K4.out _ (tb_on HT.out.2 (by repeat (first | (with_reducible exact BW8) | (with_reducible refine bal ?_ _) | (with_reducible refine Below.drew ?_) | (with_reducible refine bdn ?_ _))))).mono ?_
  rintro e w9 ⟨rfl, hb⟩
  have BW9 : Below w.heap.size w w9 := btr (by repeat (first | (with_reducible exact BW8) | (with_reducible refine bal ?_ _) | (with_reducible refine Below.drew ?_) | (with_reducible refine bdn ?_ _))) hb
  have A9 : Row5 w9 w.heap.size (.bool ga) (.int .u64 a0) (.int .u64 a1) (.int .u64 a2) (.int .u64 a3) := Row5.keep hb (by repeat (first | (with_reducible exact A8) | (with_reducible refine Row5.alloc ?_ _) | (with_reducible refine Row5.drew ?_)))
  have B9 : Row5 w9 (w.heap.size + 1) (.bool gb) (.int .u64 b0) (.int .u64 b1) (.int .u64 b2) (.int .u64 b3) := Row5.keep hb (by repeat (first | (with_reducible exact B8) | (with_reducible refine Row5.alloc ?_ _) | (with_reducible refine Row5.drew ?_)))
  have U9 : Row5 w9 w3.heap.size (.bool gu) (.int .u64 u0) (.int .u64 u1) (.int .u64 u2) (.int .u64 u3) := Row5.keep hb (by repeat (first | (with_reducible exact U8) | (with_reducible refine Row5.alloc ?_ _) | (with_reducible refine Row5.drew ?_)))
  have D9 : Row5 w9 w5.heap.size (.bool gd) (.int .u64 d0) (.int .u64 d1) (.int .u64 d2) (.int .u64 d3) := Row5.keep hb (by repeat (first | (with_reducible exact D8) | (with_reducible refine Row5.alloc ?_ _) | (with_reducible refine Row5.drew ?_)))
  have H9 : Row5 w9 w7.heap.size (.bool gh) (.int .u64 h0) (.int .u64 h1) (.int .u64 h2) (.int .u64 h3) := Row5.keep hb (by repeat (first | (with_reducible exact H8) | (with_reducible refine Row5.alloc ?_ _) | (with_reducible refine Row5.drew ?_)))
  clear A8 B8 U8 D8 H8
  clear BW8
  clear hb
  go_upto_region 7 with (fail)
  go_name_world w10 hw10
  have BW10 : Below w.heap.size w w10 := by rw [← hw10]; repeat (first | (with_reducible exact BW9) | (with_reducible refine bal ?_ _) | (with_reducible refine Below.drew ?_) | (with_reducible refine bdn ?_ _))
  have A10 : Row5 w10 w.heap.size (.bool ga) (.int .u64 a0) (.int .u64 a1) (.int .u64 a2) (.int .u64 a3) := by rw [← hw10]; exact (by repeat (first | (with_reducible exact A9) | (with_reducible refine Row5.alloc ?_ _) | (with_reducible refine Row5.drew ?_)))
  have B10 : Row5 w10 (w.heap.size + 1) (.bool gb) (.int .u64 b0) (.int .u64 b1) (.int .u64 b2) (.int .u64 b3) := by rw [← hw10]; exact (by repeat (first | (with_reducible exact B9) | (with_reducible refine Row5.alloc ?_ _) | (with_reducible refine Row5.drew ?_)))
  have U10 : Row5 w10 w3.heap.size (.bool gu) (.int .u64 u0) (.int .u64 u1) (.int .u64 u2) (.int .u64 u3) := by rw [← hw10]; exact (by repeat (first | (with_reducible exact U9) | (with_reducible refine Row5.alloc ?_ _) | (with_reducible refine Row5.drew ?_)))
  have D10 : Row5 w10 w5.heap.size (.bool gd) (.int .u64 d0) (.int .u64 d1) (.int .u64 d2) (.int .u64 d3) := by rw [← hw10]; exact (by repeat (first | (with_reducible exact D9) | (with_reducible refine Row5.alloc ?_ _) | (with_reducible refine Row5.drew ?_)))
  have H10 : Row5 w10 w7.heap.size (.bool gh) (.int .u64 h0) (.int .u64 h1) (.int .u64 h2) (.int .u64 h3) := by rw [← hw10]; exact (by repeat (first | (with_reducible exact H9) | (with_reducible refine Row5.alloc ?_ _) | (with_reducible refine Row5.drew ?_)))
  have apO_A := A9.lt
  have apO_B := B9.lt
  have apO_U := U9.lt
  have apO_D := D9.lt
  have apO_H := H9.lt
  have apO_0 := (BW9).size
  have O10 : Row5 w10 w9.heap.size (.bool go) (.int .u64 o0) (.int .u64 o1) (.int .u64 o2) (.int .u64 o3) := by rw [← hw10]; exact (by repeat (first | (with_reducible exact Row5.new _ _ _ _ _ _) | ((with_reducible refine Row5.new' _ ?_ _ _ _ _ _); (simp; done)) | (with_reducible refine Row5.alloc ?_ _) | (with_reducible refine Row5.drew ?_)))
  clear A9 B9 U9 D9 H9
  clear BW9
  clear hw10
  obtain ⟨Bc0, Bc1, Bc2, Bc3, Bc4⟩ := B10.parts
  obtain ⟨Bf0, Bf1, Bf2, Bf3, Bf4⟩ := B10.free
  go_wp2_with fail
  refine (K5.out _ (tb_on HT.out.2 (by repeat (first | (with_reducible exact BW10) | (with_reducible refine bal ?_ _) | (with_reducible refine Below.drew ?_) | (with_reducible refine bdn ?_ _))))).mono ?_
  rintro e w11 ⟨rfl, hb⟩
  have BW11 : Below w.heap.size w w11 := btr (by repeat (first | (with_reducible exact BW10) | (with_reducible refine bal ?_ _) | (with_reducible refine Below.drew ?_) | (with_reducible refine bdn ?_ _))) hb
  have A11 : Row5 w11 w.heap.size (.bool ga) (.int .u64 a0) (.int .u64 a1) (.int .u64 a2) (.int .u64 a3) := Row5.keep hb (by repeat (first | (with_reducible exact A10) | (with_reducible refine Row5.alloc ?_ _) | (with_reducible refine Row5.drew ?_)))
  have B11 : Row5 w11 (w.heap.size + 1) (.bool gb) (.int .u64 b0) (.int .u64 b1) (.int .u64 b2) (.int .u64 b3) := Row5.keep hb (by repeat (first | (with_reducible exact B10) | (with_reducible refine Row5.alloc ?_ _) | (with_reducible refine Row5.drew ?_)))
  have U11 : Row5 w11 w3.heap.size (.bool gu) (.int .u64 u0) (.int .u64 u1) (.int .u64 u2) (.int .u64 u3) := Row5.keep hb (by repeat (first | (with_reducible exact U10) | (with_reducible refine Row5.alloc ?_ _) | (with_reducible refine Row5.drew ?_)))
  have D11 : Row5 w11 w5.heap.size (.bool gd) (.int .u64 d0) (.int .u64 d1) (.int .u64 d2) (.int .u64 d3) := Row5.keep hb (by repeat (first | (with_reducible exact D10) | (with_reducible refine Row5.alloc ?_ _) | (with_reducible refine Row5.drew ?_)))
  have H11 : Row5 w11 w7.heap.size (.bool gh) (.int .u64 h0) (.int .u64 h1) (.int .u64 h2) (.int .u64 h3) := Row5.keep hb (by repeat (first | (with_reducible exact H10) | (with_reducible refine Row5.alloc ?_ _) | (with_reducible refine Row5.drew ?_)))
  have O11 : Row5 w11 w9.heap.size (.bool go) (.int .u64 o0) (.int .u64 o1) (.int .u64 o2) (.int .u64 o3) := Row5.keep hb (by repeat (first | (with_reducible exact O10) | (with_reducible refine Row5.alloc ?_ _) | (with_reducible refine Row5.drew ?_)))
  clear A10 B10 U10 D10 H10 O10
  clear BW10
  clear hb
  obtain ⟨Ac0, Ac1, Ac2, Ac3, Ac4⟩ := A11.parts
  obtain ⟨Af0, Af1, Af2, Af3, Af4⟩ := A11.free
  obtain ⟨Bc0, Bc1, Bc2, Bc3, Bc4⟩ := B11.parts
  obtain ⟨Bf0, Bf1, Bf2, Bf3, Bf4⟩ := B11.free
  go_wp2_with fail
  (with_reducible refine (K6.out _).mono ?_)
  rintro e w12 ⟨rfl, hb⟩
  have BW12 : Below w.heap.size w w12 := btr (by repeat (first | (with_reducible exact BW11) | (with_reducible refine bal ?_ _) | (with_reducible refine Below.drew ?_) | (with_reducible refine bdn ?_ _))) hb
  have A12 : Row5 w12 w.heap.size (.bool ga) (.int .u64 a0) (.int .u64 a1) (.int .u64 a2) (.int .u64 a3) := Row5.keep hb (by repeat (first | (with_reducible exact A11) | (with_reducible refine Row5.alloc ?_ _) | (with_reducible refine Row5.drew ?_)))
  have B12 : Row5 w12 (w.heap.size + 1) (.bool gb) (.int .u64 b0) (.int .u64 b1) (.int .u64 b2) (.int .u64 b3) := Row5.keep hb (by repeat (first | (with_reducible exact B11) | (with_reducible refine Row5.alloc ?_ _) | (with_reducible refine Row5.drew ?_)))
  have U12 : Row5 w12 w3.heap.size (.bool gu) (.int .u64 u0) (.int .u64 u1) (.int .u64 u2) (.int .u64 u3) := Row5.keep hb (by repeat (first | (with_reducible exact U11) | (with_reducible refine Row5.alloc ?_ _) | (with_reducible refine Row5.drew ?_)))
  have D12 : Row5 w12 w5.heap.size (.bool gd) (.int .u64 d0) (.int .u64 d1) (.int .u64 d2) (.int .u64 d3) := Row5.keep hb (by repeat (first | (with_reducible exact D11) | (with_reducible refine Row5.alloc ?_ _) | (with_reducible refine Row5.drew ?_)))
  have H12 : Row5 w12 w7.heap.size (.bool gh) (.int .u64 h0) (.int .u64 h1) (.int .u64 h2) (.int .u64 h3) := Row5.keep hb (by repeat (first | (with_reducible exact H11) | (with_reducible refine Row5.alloc ?_ _) | (with_reducible refine Row5.drew ?_)))
  have O12 : Row5 w12 w9.heap.size (.bool go) (.int .u64 o0) (.int .u64 o1) (.int .u64 o2) (.int .u64 o3) := Row5.keep hb (by repeat (first | (with_reducible exact O11) | (with_reducible refine Row5.alloc ?_ _) | (with_reducible refine Row5.drew ?_)))
  clear A11 B11 U11 D11 H11 O11
  clear BW11
  clear hb
  go_upto_region 9 with (fail)
  go_name_world w13 hw13
  have BW13 : Below w.heap.size w w13 := by rw [← hw13]; repeat (first | (with_reducible exact BW12) | (with_reducible refine bal ?_ _) | (with_reducible refine Below.drew ?_) | (with_reducible refine bdn ?_ _))
  have A13 : Row5 w13 w.heap.size (.bool ga) (.int .u64 a0) (.int .u64 a1) (.int .u64 a2) (.int .u64 a3) := by rw [← hw13]; exact (by repeat (first | (with_reducible exact A12) | (with_reducible refine Row5.alloc ?_ _) | (with_reducible refine Row5.drew ?_)))
  have B13 : Row5 w13 (w.heap.size + 1) (.bool gb) (.int .u64 b0) (.int .u64 b1) (.int .u64 b2) (.int .u64 b3) := by rw [← hw13]; exact (by repeat (first | (with_reducible exact B12) | (with_reducible refine Row5.alloc ?_ _) | (with_reducible refine Row5.drew ?_)))
  have U13 : Row5 w13 w3.heap.size (.bool gu) (.int .u64 u0) (.int .u64 u1) (.int .u64 u2) (.int .u64 u3) := by rw [← hw13]; exact (by repeat (first | (with_reducible exact U12) | (with_reducible refine Row5.alloc ?_ _) | (with_reducible refine Row5.drew ?_)))
  have D13 : Row5 w13 w5.heap.size (.bool gd) (.int .u64 d0) (.int .u64 d1) (.int .u64 d2) (.int .u64 d3) := by rw [← hw13]; exact (by repeat (first | (with_reducible exact D12) | (with_reducible refine Row5.alloc ?_ _) | (with_reducible refine Row5.drew ?_)))
  have H13 : Row5 w13 w7.heap.size (.bool gh) (.int .u64 h0) (.int .u64 h1) (.int .u64 h2) (.int .u64 h3) := by rw [← hw13]; exact (by repeat (first | (with_reducible exact H12) | (with_reducible refine Row5.alloc ?_ _) | (with_reducible refine Row5.drew ?_)))
  have O13 : Row5 w13 w9.heap.size (.bool go) (.int .u64 o0) (.int .u64 o1) (.int .u64 o2) (.int .u64 o3) := by rw [← hw13]; exact (by repeat (first | (with_reducible exact O12) | (with_reducible refine Row5.alloc ?_ _) | (with_reducible refine Row5.drew ?_)))
  clear A12 B12 U12 D12 H12 O12
  clear BW12
  clear hw13
  go_cut [77] (fun sx wx => sx = .bool false ∧ Row5 wx w.heap.size (.bool ga) (.int .u64 a0) (.int .u64 a1) (.int .u64 a2) (.int .u64 a3) ∧ Row5 wx (w.heap.size + 1) (.bool gb) (.int .u64 b0) (.int .u64 b1) (.int .u64 b2) (.int .u64 b3) ∧ Row5 wx w3.heap.size (.bool gu) (.int .u64 u0) (.int .u64 u1) (.int .u64 u2) (.int .u64 u3) ∧ Row5 wx w5.heap.size (.bool gd) (.int .u64 d0) (.int .u64 d1) (.int .u64 d2) (.int .u64 d3) ∧ Row5 wx w7.heap.size (.bool gh) (.int .u64 h0) (.int .u64 h1) (.int .u64 h2) (.int .u64 h3) ∧ Row5 wx w9.heap.size (.bool go) (.int .u64 o0) (.int .u64 o1) (.int .u64 o2) (.int .u64 o3) ∧ Below w.heap.size w wx)
  case first =>
    cases ex <;> rcases HC.out with hc | hc | hc
    · subst hc; clear HC
      go_wp2
      go_meet
      exact ⟨(by first | rfl | exact congrArg Value.bool (decide_eq_false (by omega)) | exact congrArg Value.bool (by rw [decide_eq_false (by omega), decide_eq_false (by omega)]; rfl)), (by repeat (first | (with_reducible exact A13) | (with_reducible refine Row5.drew ?_))), (by repeat (first | (with_reducible exact B13) | (with_reducible refine Row5.drew ?_))), (by repeat (first | (with_reducible exact U13) | (with_reducible refine Row5.drew ?_))), (by repeat (first | (with_reducible exact D13) | (with_reducible refine Row5.drew ?_))), (by repeat (first | (with_reducible exact H13) | (with_reducible refine Row5.drew ?_))), (by repeat (first | (with_reducible exact O13) | (with_reducible refine Row5.drew ?_))), BW13⟩
    · subst hc; clear HC
      go_wp2
      go_meet
      exact ⟨(by first | rfl | exact congrArg Value.bool (decide_eq_false (by omega)) | exact congrArg Value.bool (by rw [decide_eq_false (by omega), decide_eq_false (by omega)]; rfl)), (by repeat (first | (with_reducible exact A13) | (with_reducible refine Row5.drew ?_))), (by repeat (first | (with_reducible exact B13) | (with_reducible refine Row5.drew ?_))), (by repeat (first | (with_reducible exact U13) | (with_reducible refine Row5.drew ?_))), (by repeat (first | (with_reducible exact D13) | (with_reducible refine Row5.drew ?_))), (by repeat (first | (with_reducible exact H13) | (with_reducible refine Row5.drew ?_))), (by repeat (first | (with_reducible exact O13) | (with_reducible refine Row5.drew ?_))), BW13⟩
    · subst hc; clear HC
      go_wp2
      go_meet
      exact ⟨(by first | rfl | exact congrArg Value.bool (decide_eq_false (by omega)) | exact congrArg Value.bool (by rw [decide_eq_false (by omega), decide_eq_false (by omega)]; rfl)), (by repeat (first | (with_reducible exact A13) | (with_reducible refine Row5.drew ?_))), (by repeat (first | (with_reducible exact B13) | (with_reducible refine Row5.drew ?_))), (by repeat (first | (with_reducible exact U13) | (with_reducible refine Row5.drew ?_))), (by repeat (first | (with_reducible exact D13) | (with_reducible refine Row5.drew ?_))), (by repeat (first | (with_reducible exact H13) | (with_reducible refine Row5.drew ?_))), (by repeat (first | (with_reducible exact O13) | (with_reducible refine Row5.drew ?_))), BW13⟩
    · subst hc; clear HC
      exact absurd (F2.out rfl) (by decide)
    · subst hc; clear HC
      exact absurd (F2.out rfl) (by decide)
    · subst hc; clear HC
      have j1 := F1.out rfl (by decide)
      clear F1 F2 F3 F4
      obtain ⟨Bc0, Bc1, Bc2, Bc3, Bc4⟩ := B13.parts
      obtain ⟨Bf0, Bf1, Bf2, Bf3, Bf4⟩ := B13.free
      obtain ⟨Uc0, Uc1, Uc2, Uc3, Uc4⟩ := U13.parts
      obtain ⟨Uf0, Uf1, Uf2, Uf3, Uf4⟩ := U13.free
      go_wp2_with fail
      (with_reducible refine (K7.out _).mono ?_)
      rintro e w14 ⟨rfl, hb⟩
      have BW14 : Below w.heap.size w w14 := btr (by repeat (first | (with_reducible exact BW13) | (with_reducible refine bal ?_ _) | (with_reducible refine Below.drew ?_) | (with_reducible refine bdn ?_ _))) hb
      have A14 : Row5 w14 w.heap.size (.bool ga) (.int .u64 a0) (.int .u64 a1) (.int .u64 a2) (.int .u64 a3) := Row5.keep hb (by repeat (first | (with_reducible exact A13) | (with_reducible refine Row5.alloc ?_ _) | (with_reducible refine Row5.drew ?_)))
      have B14 : Row5 w14 (w.heap.size + 1) (.bool gb) (.int .u64 b0) (.int .u64 b1) (.int .u64 b2) (.int .u64 b3) := Row5.keep hb (by repeat (first | (with_reducible exact B13) | (with_reducible refine Row5.alloc ?_ _) | (with_reducible refine Row5.drew ?_)))
      have U14 : Row5 w14 w3.heap.size (.bool gu) (.int .u64 u0) (.int .u64 u1) (.int .u64 u2) (.int .u64 u3) := Row5.keep hb (by repeat (first | (with_reducible exact U13) | (with_reducible refine Row5.alloc ?_ _) | (with_reducible refine Row5.drew ?_)))
      have D14 : Row5 w14 w5.heap.size (.bool gd) (.int .u64 d0) (.int .u64 d1) (.int .u64 d2) (.int .u64 d3) := Row5.keep hb (by repeat (first | (with_reducible exact D13) | (with_reducible refine Row5.alloc ?_ _) | (with_reducible refine Row5.drew ?_)))
      have H14 : Row5 w14 w7.heap.size (.bool gh) (.int .u64 h0) (.int .u64 h1) (.int .u64 h2) (.int .u64 h3) := Row5.keep hb (by repeat (first | (with_reducible exact H13) | (with_reducible refine Row5.alloc ?_ _) | (with_reducible refine Row5.drew ?_)))
      have O14 : Row5 w14 w9.heap.size (.bool go) (.int .u64 o0) (.int .u64 o1) (.int .u64 o2) (.int .u64 o3) := Row5.keep hb (by repeat (first | (with_reducible exact O13) | (with_reducible refine Row5.alloc ?_ _) | (with_reducible refine Row5.drew ?_)))
      clear A13 B13 U13 D13 H13 O13
      clear BW13
      clear hb
      go_wp2
      go_meet
      exact ⟨(by first | rfl | exact congrArg Value.bool (decide_eq_false (by omega)) | exact congrArg Value.bool (by rw [decide_eq_false (by omega), decide_eq_false (by omega)]; rfl)), A14, B14, U14, D14, H14, O14, BW14⟩
  case rest =>
    generalize wc = w14 at *
    clear A13
    clear B13
    clear U13
    clear D13
    clear H13
    clear O13
    clear BW13
    obtain ⟨rfl, A14, B14, U14, D14, H14, O14, BW14⟩ := hcut
    go_upto_region 11 with (fail)
    go_name_world w15 hw15
    have BW15 : Below w.heap.size w w15 := by rw [← hw15]; repeat (first | (with_reducible exact BW14) | (with_reducible refine bal ?_ _) | (with_reducible refine Below.drew ?_) | (with_reducible refine bdn ?_ _))
    have A15 : Row5 w15 w.heap.size (.bool ga) (.int .u64 a0) (.int .u64 a1) (.int .u64 a2) (.int .u64 a3) := by rw [← hw15]; exact (by repeat (first | (with_reducible exact A14) | (with_reducible refine Row5.alloc ?_ _) | (with_reducible refine Row5.drew ?_)))
    have B15 : Row5 w15 (w.heap.size + 1) (.bool gb) (.int .u64 b0) (.int .u64 b1) (.int .u64 b2) (.int .u64 b3) := by rw [← hw15]; exact (by repeat (first | (with_reducible exact B14) | (with_reducible refine Row5.alloc ?_ _) | (with_reducible refine Row5.drew ?_)))
    have U15 : Row5 w15 w3.heap.size (.bool gu) (.int .u64 u0) (.int .u64 u1) (.int .u64 u2) (.int .u64 u3) := by rw [← hw15]; exact (by repeat (first | (with_reducible exact U14) | (with_reducible refine Row5.alloc ?_ _) | (with_reducible refine Row5.drew ?_)))
    have D15 : Row5 w15 w5.heap.size (.bool gd) (.int .u64 d0) (.int .u64 d1) (.int .u64 d2) (.int .u64 d3) := by rw [← hw15]; exact (by repeat (first | (with_reducible exact D14) | (with_reducible refine Row5.alloc ?_ _) | (with_reducible refine Row5.drew ?_)))
    have H15 : Row5 w15 w7.heap.size (.bool gh) (.int .u64 h0) (.int .u64 h1) (.int .u64 h2) (.int .u64 h3) := by rw [← hw15]; exact (by repeat (first | (with_reducible exact H14) | (with_reducible refine Row5.alloc ?_ _) | (with_reducible refine Row5.drew ?_)))
    have O15 : Row5 w15 w9.heap.size (.bool go) (.int .u64 o0) (.int .u64 o1) (.int .u64 o2) (.int .u64 o3) := by rw [← hw15]; exact (by repeat (first | (with_reducible exact O14) | (with_reducible refine Row5.alloc ?_ _) | (with_reducible refine Row5.drew ?_)))
    clear A14 B14 U14 D14 H14 O14
    clear BW14
    clear hw15
    go_cut [107] (fun sx wx => sx = .bool false ∧ Row5 wx w.heap.size (.bool ga) (.int .u64 a0) (.int .u64 a1) (.int .u64 a2) (.int .u64 a3) ∧ Row5 wx (w.heap.size + 1) (.bool gb) (.int .u64 b0) (.int .u64 b1) (.int .u64 b2) (.int .u64 b3) ∧ Row5 wx w3.heap.size (.bool gu) (.int .u64 u0) (.int .u64 u1) (.int .u64 u2) (.int .u64 u3) ∧ Row5 wx w5.heap.size (.bool gd) (.int .u64 d0) (.int .u64 d1) (.int .u64 d2) (.int .u64 d3) ∧ Row5 wx w7.heap.size (.bool gh) (.int .u64 h0) (.int .u64 h1) (.int .u64 h2) (.int .u64 h3) ∧ Row5 wx w9.heap.size (.bool go) (.int .u64 o0) (.int .u64 o1) (.int .u64 o2) (.int .u64 o3) ∧ Below w.heap.size w wx)
    case first =>
      cases ex <;> rcases HC.out with hc | hc | hc
      · subst hc; clear HC
        have j2 := F4.out rfl (by decide)
        clear F1 F2 F3 F4
        obtain ⟨Bc0, Bc1, Bc2, Bc3, Bc4⟩ := B15.parts
        obtain ⟨Bf0, Bf1, Bf2, Bf3, Bf4⟩ := B15.free
        obtain ⟨Oc0, Oc1, Oc2, Oc3, Oc4⟩ := O15.parts
        obtain ⟨Of0, Of1, Of2, Of3, Of4⟩ := O15.free
        go_wp2_with fail
        (with_reducible refine (K10.out _).mono ?_)
        rintro e w16 ⟨rfl, hb⟩
        have BW16 : Below w.heap.size w w16 := btr (by repeat (first | (with_reducible exact BW15) | (with_reducible refine bal ?_ _) | (with_reducible refine Below.drew ?_) | (with_reducible refine bdn ?_ _))) hb
        have A16 : Row5 w16 w.heap.size (.bool ga) (.int .u64 a0) (.int .u64 a1) (.int .u64 a2) (.int .u64 a3) := Row5.keep hb (by repeat (first | (with_reducible exact A15) | (with_reducible refine Row5.alloc ?_ _) | (with_reducible refine Row5.drew ?_)))
        have B16 : Row5 w16 (w.heap.size + 1) (.bool gb) (.int .u64 b0) (.int .u64 b1) (.int .u64 b2) (.int .u64 b3) := Row5.keep hb (by repeat (first | (with_reducible exact B15) | (with_reducible refine Row5.alloc ?_ _) | (with_reducible refine Row5.drew ?_)))
        have U16 : Row5 w16 w3.heap.size (.bool gu) (.int .u64 u0) (.int .u64 u1) (.int .u64 u2) (.int .u64 u3) := Row5.keep hb (by repeat (first | (with_reducible exact U15) | (with_reducible refine Row5.alloc ?_ _) | (with_reducible refine Row5.drew ?_)))
        have D16 : Row5 w16 w5.heap.size (.bool gd) (.int .u64 d0) (.int .u64 d1) (.int .u64 d2) (.int .u64 d3) := Row5.keep hb (by repeat (first | (with_reducible exact D15) | (with_reducible refine Row5.alloc ?_ _) | (with_reducible refine Row5.drew ?_)))
        have H16 : Row5 w16 w7.heap.size (.bool gh) (.int .u64 h0) (.int .u64 h1) (.int .u64 h2) (.int .u64 h3) := Row5.keep hb (by repeat (first | (with_reducible exact H15) | (with_reducible refine Row5.alloc ?_ _) | (with_reducible refine Row5.drew ?_)))
        have O16 : Row5 w16 w9.heap.size (.bool go) (.int .u64 o0) (.int .u64 o1) (.int .u64 o2) (.int .u64 o3) := Row5.keep hb (by repeat (first | (with_reducible exact O15) | (with_reducible refine Row5.alloc ?_ _) | (with_reducible refine Row5.drew ?_)))
        clear A15 B15 U15 D15 H15 O15
        clear BW15
        clear hb
        go_wp2
        go_meet
        exact ⟨(by first | rfl | exact congrArg Value.bool (decide_eq_false (by omega)) | exact congrArg Value.bool (by rw [decide_eq_false (by omega), decide_eq_false (by omega)]; rfl)), A16, B16, U16, D16, H16, O16, BW16⟩
      · subst hc; clear HC
        have j1 := F3.out rfl (by decide)
        have j2 := F4.out rfl (by decide)
        clear F1 F2 F3 F4
        obtain ⟨Bc0, Bc1, Bc2, Bc3, Bc4⟩ := B15.parts
        obtain ⟨Bf0, Bf1, Bf2, Bf3, Bf4⟩ := B15.free
        obtain ⟨Hc0, Hc1, Hc2, Hc3, Hc4⟩ := H15.parts
        obtain ⟨Hf0, Hf1, Hf2, Hf3, Hf4⟩ := H15.free
        go_wp2_with fail
        (with_reducible refine (K9.out _).mono ?_)
        rintro e w16 ⟨rfl, hb⟩
        have BW16 : Below w.heap.size w w16 := btr (by repeat (first | (with_reducible exact BW15) | (with_reducible refine bal ?_ _) | (with_reducible refine Below.drew ?_) | (with_reducible refine bdn ?_ _))) hb
        have A16 : Row5 w16 w.heap.size (.bool ga) (.int .u64 a0) (.int .u64 a1) (.int .u64 a2) (.int .u64 a3) := Row5.keep hb (by repeat (first | (with_reducible exact A15) | (with_reducible refine Row5.alloc ?_ _) | (with_reducible refine Row5.drew ?_)))
        have B16 : Row5 w16 (w.heap.size + 1) (.bool gb) (.int .u64 b0) (.int .u64 b1) (.int .u64 b2) (.int .u64 b3) := Row5.keep hb (by repeat (first | (with_reducible exact B15) | (with_reducible refine Row5.alloc ?_ _) | (with_reducible refine Row5.drew ?_)))
        have U16 : Row5 w16 w3.heap.size (.bool gu) (.int .u64 u0) (.int .u64 u1) (.int .u64 u2) (.int .u64 u3) := Row5.keep hb (by repeat (first | (with_reducible exact U15) | (with_reducible refine Row5.alloc ?_ _) | (with_reducible refine Row5.drew ?_)))
        have D16 : Row5 w16 w5.heap.size (.bool gd) (.int .u64 d0) (.int .u64 d1) (.int .u64 d2) (.int .u64 d3) := Row5.keep hb (by repeat (first | (with_reducible exact D15) | (with_reducible refine Row5.alloc ?_ _) | (with_reducible refine Row5.drew ?_)))
        have H16 : Row5 w16 w7.heap.size (.bool gh) (.int .u64 h0) (.int .u64 h1) (.int .u64 h2) (.int .u64 h3) := Row5.keep hb (by repeat (first | (with_reducible exact H15) | (with_reducible refine Row5.alloc ?_ _) | (with_reducible refine Row5.drew ?_)))
        have O16 : Row5 w16 w9.heap.size (.bool go) (.int .u64 o0) (.int .u64 o1) (.int .u64 o2) (.int .u64 o3) := Row5.keep hb (by repeat (first | (with_reducible exact O15) | (with_reducible refine Row5.alloc ?_ _) | (with_reducible refine Row5.drew ?_)))
        clear A15 B15 U15 D15 H15 O15
        clear BW15
        clear hb
        obtain ⟨Bc0, Bc1, Bc2, Bc3, Bc4⟩ := B16.parts
        obtain ⟨Bf0, Bf1, Bf2, Bf3, Bf4⟩ := B16.free
        obtain ⟨Oc0, Oc1, Oc2, Oc3, Oc4⟩ := O16.parts
        obtain ⟨Of0, Of1, Of2, Of3, Of4⟩ := O16.free
        go_wp2_with fail
        (with_reducible refine (K10.out _).mono ?_)
        rintro e w17 ⟨rfl, hb⟩
        have BW17 : Below w.heap.size w w17 := btr (by repeat (first | (with_reducible exact BW16) | (with_reducible refine bal ?_ _) | (with_reducible refine Below.drew ?_) | (with_reducible refine bdn ?_ _))) hb
        have A17 : Row5 w17 w.heap.size (.bool ga) (.int .u64 a0) (.int .u64 a1) (.int .u64 a2) (.int .u64 a3) := Row5.keep hb (by repeat (first | (with_reducible exact A16) | (with_reducible refine Row5.alloc ?_ _) | (with_reducible refine Row5.drew ?_)))
        have B17 : Row5 w17 (w.heap.size + 1) (.bool gb) (.int .u64 b0) (.int .u64 b1) (.int .u64 b2) (.int .u64 b3) := Row5.keep hb (by repeat (first | (with_reducible exact B16) | (with_reducible refine Row5.alloc ?_ _) | (with_reducible refine Row5.drew ?_)))
        have U17 : Row5 w17 w3.heap.size (.bool gu) (.int .u64 u0) (.int .u64 u1) (.int .u64 u2) (.int .u64 u3) := Row5.keep hb (by repeat (first | (with_reducible exact U16) | (with_reducible refine Row5.alloc ?_ _) | (with_reducible refine Row5.drew ?_)))
        have D17 : Row5 w17 w5.heap.size (.bool gd) (.int .u64 d0) (.int .u64 d1) (.int .u64 d2) (.int .u64 d3) := Row5.keep hb (by repeat (first | (with_reducible exact D16) | (with_reducible refine Row5.alloc ?_ _) | (with_reducible refine Row5.drew ?_)))
        have H17 : Row5 w17 w7.heap.size (.bool gh) (.int .u64 h0) (.int .u64 h1) (.int .u64 h2) (.int .u64 h3) := Row5.keep hb (by repeat (first | (with_reducible exact H16) | (with_reducible refine Row5.alloc ?_ _) | (with_reducible refine Row5.drew ?_)))
        have O17 : Row5 w17 w9.heap.size (.bool go) (.int .u64 o0) (.int .u64 o1) (.int .u64 o2) (.int .u64 o3) := Row5.keep hb (by repeat (first | (with_reducible exact O16) | (with_reducible refine Row5.alloc ?_ _) | (with_reducible refine Row5.drew ?_)))
        clear A16 B16 U16 D16 H16 O16
        clear BW16
        clear hb
        go_wp2
        go_meet
        exact ⟨(by first | rfl | exact congrArg Value.bool (decide_eq_false (by omega)) | exact congrArg Value.bool (by rw [decide_eq_false (by omega), decide_eq_false (by omega)]; rfl)), A17, B17, U17, D17, H17, O17, BW17⟩
      · subst hc; clear HC
        have j1 := F3.out rfl (by decide)
        clear F1 F2 F3 F4
        obtain ⟨Bc0, Bc1, Bc2, Bc3, Bc4⟩ := B15.parts
        obtain ⟨Bf0, Bf1, Bf2, Bf3, Bf4⟩ := B15.free
        obtain ⟨Hc0, Hc1, Hc2, Hc3, Hc4⟩ := H15.parts
        obtain ⟨Hf0, Hf1, Hf2, Hf3, Hf4⟩ := H15.free
        go_wp2_with fail
        (with_reducible refine (K9.out _).mono ?_)
        rintro e w16 ⟨rfl, hb⟩
        have BW16 : Below w.heap.size w w16 := btr (by repeat (first | (with_reducible exact BW15) | (with_reducible refine bal ?_ _) | (with_reducible refine Below.drew ?_) | (with_reducible refine bdn ?_ _))) hb
        have A16 : Row5 w16 w.heap.size (.bool ga) (.int .u64 a0) (.int .u64 a1) (.int .u64 a2) (.int .u64 a3) := Row5.keep hb (by repeat (first | (with_reducible exact A15) | (with_reducible refine Row5.alloc ?_ _) | (with_reducible refine Row5.drew ?_)))
        have B16 : Row5 w16 (w.heap.size + 1) (.bool gb) (.int .u64 b0) (.int .u64 b1) (.int .u64 b2) (.int .u64 b3) := Row5.keep hb (by repeat (first | (with_reducible exact B15) | (with_reducible refine Row5.alloc ?_ _) | (with_reducible refine Row5.drew ?_)))
        have U16 : Row5 w16 w3.heap.size (.bool gu) (.int .u64 u0) (.int .u64 u1) (.int .u64 u2) (.int .u64 u3) := Row5.keep hb (by repeat (first | (with_reducible exact U15) | (with_reducible refine Row5.alloc ?_ _) | (with_reducible refine Row5.drew ?_)))
        have D16 : Row5 w16 w5.heap.size (.bool gd) (.int .u64 d0) (.int .u64 d1) (.int .u64 d2) (.int .u64 d3) := Row5.keep hb (by repeat (first | (with_reducible exact D15) | (with_reducible refine Row5.alloc ?_ _) | (with_reducible refine Row5.drew ?_)))
        have H16 : Row5 w16 w7.heap.size (.bool gh) (.int .u64 h0) (.int .u64 h1) (.int .u64 h2) (.int .u64 h3) := Row5.keep hb (by repeat (first | (with_reducible exact H15) | (with_reducible refine Row5.alloc ?_ _) | (with_reducible refine Row5.drew ?_)))
        have O16 : Row5 w16 w9.heap.size (.bool go) (.int .u64 o0) (.int .u64 o1) (.int .u64 o2) (.int .u64 o3) := Row5.keep hb (by repeat (first | (with_reducible exact O15) | (with_reducible refine Row5.alloc ?_ _) | (with_reducible refine Row5.drew ?_)))
        clear A15 B15 U15 D15 H15 O15
        clear BW15
        clear hb
        go_wp2
        go_meet
        exact ⟨(by first | rfl | exact congrArg Value.bool (decide_eq_false (by omega)) | exact congrArg Value.bool (by rw [decide_eq_false (by omega), decide_eq_false (by omega)]; rfl)), A16, B16, U16, D16, H16, O16, BW16⟩
      · subst hc; clear HC
        go_wp2
        go_meet
        exact ⟨(by first | rfl | exact congrArg Value.bool (decide_eq_false (by omega)) | exact congrArg Value.bool (by rw [decide_eq_false (by omega), decide_eq_false (by omega)]; rfl)), (by repeat (first | (with_reducible exact A15) | (with_reducible refine Row5.drew ?_))), (by repeat (first | (with_reducible exact B15) | (with_reducible refine Row5.drew ?_))), (by repeat (first | (with_reducible exact U15) | (with_reducible refine Row5.drew ?_))), (by repeat (first | (with_reducible exact D15) | (with_reducible refine Row5.drew ?_))), (by repeat (first | (with_reducible exact H15) | (with_reducible refine Row5.drew ?_))), (by repeat (first | (with_reducible exact O15) | (with_reducible refine Row5.drew ?_))), BW15⟩
      · subst hc; clear HC
        go_wp2
        go_meet
        exact ⟨(by first | rfl | exact congrArg Value.bool (decide_eq_false (by omega)) | exact congrArg Value.bool (by rw [decide_eq_false (by omega), decide_eq_false (by omega)]; rfl)), (by repeat (first | (with_reducible exact A15) | (with_reducible refine Row5.drew ?_))), (by repeat (first | (with_reducible exact B15) | (with_reducible refine Row5.drew ?_))), (by repeat (first | (with_reducible exact U15) | (with_reducible refine Row5.drew ?_))), (by repeat (first | (with_reducible exact D15) | (with_reducible refine Row5.drew ?_))), (by repeat (first | (with_reducible exact H15) | (with_reducible refine Row5.drew ?_))), (by repeat (first | (with_reducible exact O15) | (with_reducible refine Row5.drew ?_))), BW15⟩
      · subst hc; clear HC
        go_wp2
        go_meet
        exact ⟨(by first | rfl | exact congrArg Value.bool (decide_eq_false (by omega)) | exact congrArg Value.bool (by rw [decide_eq_false (by omega), decide_eq_false (by omega)]; rfl)), (by repeat (first | (with_reducible exact A15) | (with_reducible refine Row5.drew ?_))), (by repeat (first | (with_reducible exact B15) | (with_reducible refine Row5.drew ?_))), (by repeat (first | (with_reducible exact U15) | (with_reducible refine Row5.drew ?_))), (by repeat (first | (with_reducible exact D15) | (with_reducible refine Row5.drew ?_))), (by repeat (first | (with_reducible exact H15) | (with_reducible refine Row5.drew ?_))), (by repeat (first | (with_reducible exact O15) | (with_reducible refine Row5.drew ?_))), BW15⟩
    case rest =>
      generalize wc = w16 at *
      clear A15
      clear B15
      clear U15
      clear D15
      clear H15
      clear O15
      clear BW15
      obtain ⟨rfl, A16, B16, U16, D16, H16, O16, BW16⟩ := hcut
      clear HC F1 F2 F3 F4
      go_wp2_with fail
      refine (told2_true _ (tabs_on HT.out (by repeat (first | (with_reducible exact BW16) | (with_reducible refine bal ?_ _) | (with_reducible refine Below.drew ?_) | (with_reducible refine bdn ?_ _))))).mono ?_
      rintro e w17 ⟨rfl, hb⟩
      have BW17 : Below w.heap.size w w17 := btr (by repeat (first | (with_reducible exact BW16) | (with_reducible refine bal ?_ _) | (with_reducible refine Below.drew ?_) | (with_reducible refine bdn ?_ _))) hb
      have A17 : Row5 w17 w.heap.size (.bool ga) (.int .u64 a0) (.int .u64 a1) (.int .u64 a2) (.int .u64 a3) := Row5.keep hb (by repeat (first | (with_reducible exact A16) | (with_reducible refine Row5.alloc ?_ _) | (with_reducible refine Row5.drew ?_)))
      have B17 : Row5 w17 (w.heap.size + 1) (.bool gb) (.int .u64 b0) (.int .u64 b1) (.int .u64 b2) (.int .u64 b3) := Row5.keep hb (by repeat (first | (with_reducible exact B16) | (with_reducible refine Row5.alloc ?_ _) | (with_reducible refine Row5.drew ?_)))
      have U17 : Row5 w17 w3.heap.size (.bool gu) (.int .u64 u0) (.int .u64 u1) (.int .u64 u2) (.int .u64 u3) := Row5.keep hb (by repeat (first | (with_reducible exact U16) | (with_reducible refine Row5.alloc ?_ _) | (with_reducible refine Row5.drew ?_)))
      have D17 : Row5 w17 w5.heap.size (.bool gd) (.int .u64 d0) (.int .u64 d1) (.int .u64 d2) (.int .u64 d3) := Row5.keep hb (by repeat (first | (with_reducible exact D16) | (with_reducible refine Row5.alloc ?_ _) | (with_reducible refine Row5.drew ?_)))
      have H17 : Row5 w17 w7.heap.size (.bool gh) (.int .u64 h0) (.int .u64 h1) (.int .u64 h2) (.int .u64 h3) := Row5.keep hb (by repeat (first | (with_reducible exact H16) | (with_reducible refine Row5.alloc ?_ _) | (with_reducible refine Row5.drew ?_)))
      have O17 : Row5 w17 w9.heap.size (.bool go) (.int .u64 o0) (.int .u64 o1) (.int .u64 o2) (.int .u64 o3) := Row5.keep hb (by repeat (first | (with_reducible exact O16) | (with_reducible refine Row5.alloc ?_ _) | (with_reducible refine Row5.drew ?_)))
      clear A16 B16 U16 D16 H16 O16
      clear BW16
      clear hb
      obtain ⟨Ac0, Ac1, Ac2, Ac3, Ac4⟩ := A17.parts
      obtain ⟨Af0, Af1, Af2, Af3, Af4⟩ := A17.free
      obtain ⟨Uc0, Uc1, Uc2, Uc3, Uc4⟩ := U17.parts
      obtain ⟨Uf0, Uf1, Uf2, Uf3, Uf4⟩ := U17.free
      go_wp2_with fail
      refine (K11.out _ (tb_on HT.out.2 (by repeat (first | (with_reducible exact BW17) | (with_reducible refine bal ?_ _) | (with_reducible refine Below.drew ?_) | (with_reducible refine bdn ?_ _))))).mono ?_
      rintro e w18 ⟨rfl, hb⟩
      have BW18 : Below w.heap.size w w18 := btr (by repeat (first | (with_reducible exact BW17) | (with_reducible refine bal ?_ _) | (with_reducible refine Below.drew ?_) | (with_reducible refine bdn ?_ _))) hb
      have A18 : Row5 w18 w.heap.size (.bool ga) (.int .u64 a0) (.int .u64 a1) (.int .u64 a2) (.int .u64 a3) := Row5.keep hb (by repeat (first | (with_reducible exact A17) | (with_reducible refine Row5.alloc ?_ _) | (with_reducible refine Row5.drew ?_)))
      have B18 : Row5 w18 (w.heap.size + 1) (.bool gb) (.int .u64 b0) (.int .u64 b1) (.int .u64 b2) (.int .u64 b3) := Row5.keep hb (by repeat (first | (with_reducible exact B17) | (with_reducible refine Row5.alloc ?_ _) | (with_reducible refine Row5.drew ?_)))
      have U18 : Row5 w18 w3.heap.size (.bool gu) (.int .u64 u0) (.int .u64 u1) (.int .u64 u2) (.int .u64 u3) := Row5.keep hb (by repeat (first | (with_reducible exact U17) | (with_reducible refine Row5.alloc ?_ _) | (with_reducible refine Row5.drew ?_)))
      have D18 : Row5 w18 w5.heap.size (.bool gd) (.int .u64 d0) (.int .u64 d1) (.int .u64 d2) (.int .u64 d3) := Row5.keep hb (by repeat (first | (with_reducible exact D17) | (with_reducible refine Row5.alloc ?_ _) | (with_reducible refine Row5.drew ?_)))
      have H18 : Row5 w18 w7.heap.size (.bool gh) (.int .u64 h0) (.int .u64 h1) (.int .u64 h2) (.int .u64 h3) := Row5.keep hb (by repeat (first | (with_reducible exact H17) | (with_reducible refine Row5.alloc ?_ _) | (with_reducible refine Row5.drew ?_)))
      have O18 : Row5 w18 w9.heap.size (.bool go) (.int .u64 o0) (.int .u64 o1) (.int .u64 o2) (.int .u64 o3) := Row5.keep hb (by repeat (first | (with_reducible exact O17) | (with_reducible refine Row5.alloc ?_ _) | (with_reducible refine Row5.drew ?_)))
      clear A17 B17 U17 D17 H17 O17
      clear BW17
      clear hb
      obtain ⟨Ac0, Ac1, Ac2, Ac3, Ac4⟩ := A18.parts
      obtain ⟨Af0, Af1, Af2, Af3, Af4⟩ := A18.free
      obtain ⟨Uc0, Uc1, Uc2, Uc3, Uc4⟩ := U18.parts
      obtain ⟨Uf0, Uf1, Uf2, Uf3, Uf4⟩ := U18.free
      go_wp2_with fail
      (with_reducible refine (K12.out _).mono ?_)
      rintro e w19 ⟨rfl, hb⟩
      have BW19 : Below w.heap.size w w19 := btr (by repeat (first | (with_reducible exact BW18) | (with_reducible refine bal ?_ _) | (with_reducible refine Below.drew ?_) | (with_reducible refine bdn ?_ _))) hb
      have A19 : Row5 w19 w.heap.size (.bool ga) (.int .u64 a0) (.int .u64 a1) (.int .u64 a2) (.int .u64 a3) := Row5.keep hb (by repeat (first | (with_reducible exact A18) | (with_reducible refine Row5.alloc ?_ _) | (with_reducible refine Row5.drew ?_)))
      have B19 : Row5 w19 (w.heap.size + 1) (.bool gb) (.int .u64 b0) (.int .u64 b1) (.int .u64 b2) (.int .u64 b3) := Row5.keep hb (by repeat (first | (with_reducible exact B18) | (with_reducible refine Row5.alloc ?_ _) | (with_reducible refine Row5.drew ?_)))
      have U19 : Row5 w19 w3.heap.size (.bool gu) (.int .u64 u0) (.int .u64 u1) (.int .u64 u2) (.int .u64 u3) := Row5.keep hb (by repeat (first | (with_reducible exact U18) | (with_reducible refine Row5.alloc ?_ _) | (with_reducible refine Row5.drew ?_)))
      have D19 : Row5 w19 w5.heap.size (.bool gd) (.int .u64 d0) (.int .u64 d1) (.int .u64 d2) (.int .u64 d3) := Row5.keep hb (by repeat (first | (with_reducible exact D18) | (with_reducible refine Row5.alloc ?_ _) | (with_reducible refine Row5.drew ?_)))
      have H19 : Row5 w19 w7.heap.size (.bool gh) (.int .u64 h0) (.int .u64 h1) (.int .u64 h2) (.int .u64 h3) := Row5.keep hb (by repeat (first | (with_reducible exact H18) | (with_reducible refine Row5.alloc ?_ _) | (with_reducible refine Row5.drew ?_)))
      have O19 : Row5 w19 w9.heap.size (.bool go) (.int .u64 o0) (.int .u64 o1) (.int .u64 o2) (.int .u64 o3) := Row5.keep hb (by repeat (first | (with_reducible exact O18) | (with_reducible refine Row5.alloc ?_ _) | (with_reducible refine Row5.drew ?_)))
      clear A18 B18 U18 D18 H18 O18
      clear BW18
      clear hb
      obtain ⟨Ac0, Ac1, Ac2, Ac3, Ac4⟩ := A19.parts
      obtain ⟨Af0, Af1, Af2, Af3, Af4⟩ := A19.free
      obtain ⟨Hc0, Hc1, Hc2, Hc3, Hc4⟩ := H19.parts
      obtain ⟨Hf0, Hf1, Hf2, Hf3, Hf4⟩ := H19.free
      go_wp2_with fail
      refine (K13.out _ (tb_on HT.out.2 (by repeat (first | (with_reducible exact BW19) | (with_reducible refine bal ?_ _) | (with_reducible refine Below.drew ?_) | (with_reducible refine bdn ?_ _))))).mono ?_
      rintro e w20 ⟨rfl, hb⟩
      have BW20 : Below w.heap.size w w20 := btr (by repeat (first | (with_reducible exact BW19) | (with_reducible refine bal ?_ _) | (with_reducible refine Below.drew ?_) | (with_reducible refine bdn ?_ _))) hb
      have A20 : Row5 w20 w.heap.size (.bool ga) (.int .u64 a0) (.int .u64 a1) (.int .u64 a2) (.int .u64 a3) := Row5.keep hb (by repeat (first | (with_reducible exact A19) | (with_reducible refine Row5.alloc ?_ _) | (with_reducible refine Row5.drew ?_)))
      have B20 : Row5 w20 (w.heap.size + 1) (.bool gb) (.int .u64 b0) (.int .u64 b1) (.int .u64 b2) (.int .u64 b3) := Row5.keep hb (by repeat (first | (with_reducible exact B19) | (with_reducible refine Row5.alloc ?_ _) | (with_reducible refine Row5.drew ?_)))
      have U20 : Row5 w20 w3.heap.size (.bool gu) (.int .u64 u0) (.int .u64 u1) (.int .u64 u2) (.int .u64 u3) := Row5.keep hb (by repeat (first | (with_reducible exact U19) | (with_reducible refine Row5.alloc ?_ _) | (with_reducible refine Row5.drew ?_)))
      have D20 : Row5 w20 w5.heap.size (.bool gd) (.int .u64 d0) (.int .u64 d1) (.int .u64 d2) (.int .u64 d3) := Row5.keep hb (by repeat (first | (with_reducible exact D19) | (with_reducible refine Row5.alloc ?_ _) | (with_reducible refine Row5.drew ?_)))
      have H20 : Row5 w20 w7.heap.size (.bool gh) (.int .u64 h0) (.int .u64 h1) (.int .u64 h2) (.int .u64 h3) := Row5.keep hb (by repeat (first | (with_reducible exact H19) | (with_reducible refine Row5.alloc ?_ _) | (with_reducible refine Row5.drew ?_)))
      have O20 : Row5 w20 w9.heap.size (.bool go) (.int .u64 o0) (.int .u64 o1) (.int .u64 o2) (.int .u64 o3) := Row5.keep hb (by repeat (first | (with_reducible exact O19) | (with_reducible refine Row5.alloc ?_ _) | (with_reducible refine Row5.drew ?_)))
      clear A19 B19 U19 D19 H19 O19
      clear BW19
      clear hb
      obtain ⟨Ac0, Ac1, Ac2, Ac3, Ac4⟩ := A20.parts
      obtain ⟨Af0, Af1, Af2, Af3, Af4⟩ := A20.free
      obtain ⟨Hc0, Hc1, Hc2, Hc3, Hc4⟩ := H20.parts
      obtain ⟨Hf0, Hf1, Hf2, Hf3, Hf4⟩ := H20.free
      go_wp2_with fail
      (with_reducible refine (K14.out _).mono ?_)
      rintro e w21 ⟨rfl, hb⟩
      have BW21 : Below w.heap.size w w21 := btr (by repeat (first | (with_reducible exact BW20) | (with_reducible refine bal ?_ _) | (with_reducible refine Below.drew ?_) | (with_reducible refine bdn ?_ _))) hb
      have A21 : Row5 w21 w.heap.size (.bool ga) (.int .u64 a0) (.int .u64 a1) (.int .u64 a2) (.int .u64 a3) := Row5.keep hb (by repeat (first | (with_reducible exact A20) | (with_reducible refine Row5.alloc ?_ _) | (with_reducible refine Row5.drew ?_)))
      have B21 : Row5 w21 (w.heap.size + 1) (.bool gb) (.int .u64 b0) (.int .u64 b1) (.int .u64 b2) (.int .u64 b3) := Row5.keep hb (by repeat (first | (with_reducible exact B20) | (with_reducible refine Row5.alloc ?_ _) | (with_reducible refine Row5.drew ?_)))
      have U21 : Row5 w21 w3.heap.size (.bool gu) (.int .u64 u0) (.int .u64 u1) (.int .u64 u2) (.int .u64 u3) := Row5.keep hb (by repeat (first | (with_reducible exact U20) | (with_reducible refine Row5.alloc ?_ _) | (with_reducible refine Row5.drew ?_)))
      have D21 : Row5 w21 w5.heap.size (.bool gd) (.int .u64 d0) (.int .u64 d1) (.int .u64 d2) (.int .u64 d3) := Row5.keep hb (by repeat (first | (with_reducible exact D20) | (with_reducible refine Row5.alloc ?_ _) | (with_reducible refine Row5.drew ?_)))
      have H21 : Row5 w21 w7.heap.size (.bool gh) (.int .u64 h0) (.int .u64 h1) (.int .u64 h2) (.int .u64 h3) := Row5.keep hb (by repeat (first | (with_reducible exact H20) | (with_reducible refine Row5.alloc ?_ _) | (with_reducible refine Row5.drew ?_)))
      have O21 : Row5 w21 w9.heap.size (.bool go) (.int .u64 o0) (.int .u64 o1) (.int .u64 o2) (.int .u64 o3) := Row5.keep hb (by repeat (first | (with_reducible exact O20) | (with_reducible refine Row5.alloc ?_ _) | (with_reducible refine Row5.drew ?_)))
      clear A20 B20 U20 D20 H20 O20
      clear BW20
      clear hb
      obtain ⟨Ac0, Ac1, Ac2, Ac3, Ac4⟩ := A21.parts
      obtain ⟨Af0, Af1, Af2, Af3, Af4⟩ := A21.free
      obtain ⟨Oc0, Oc1, Oc2, Oc3, Oc4⟩ := O21.parts
      obtain ⟨Of0, Of1, Of2, Of3, Of4⟩ := O21.free
      go_wp2_with fail
      refine (K15.out _ (tb_on HT.out.2 (by repeat (first | (with_reducible exact BW21) | (with_reducible refine bal ?_ _) | (with_reducible refine Below.drew ?_) | (with_reducible refine bdn ?_ _))))).mono ?_
      rintro e w22 ⟨rfl, hb⟩
      have BW22 : Below w.heap.size w w22 := btr (by repeat (first | (with_reducible exact BW21) | (with_reducible refine bal ?_ _) | (with_reducible refine Below.drew ?_) | (with_reducible refine bdn ?_ _))) hb
      have A22 : Row5 w22 w.heap.size (.bool ga) (.int .u64 a0) (.int .u64 a1) (.int .u64 a2) (.int .u64 a3) := Row5.keep hb (by repeat (first | (with_reducible exact A21) | (with_reducible refine Row5.alloc ?_ _) | (with_reducible refine Row5.drew ?_)))
      have B22 : Row5 w22 (w.heap.size + 1) (.bool gb) (.int .u64 b0) (.int .u64 b1) (.int .u64 b2) (.int .u64 b3) := Row5.keep hb (by repeat (first | (with_reducible exact B21) | (with_reducible refine Row5.alloc ?_ _) | (with_reducible refine Row5.drew ?_)))
      have U22 : Row5 w22 w3.heap.size (.bool gu) (.int .u64 u0) (.int .u64 u1) (.int .u64 u2) (.int .u64 u3) := Row5.keep hb (by repeat (first | (with_reducible exact U21) | (with_reducible refine Row5.alloc ?_ _) | (with_reducible refine Row5.drew ?_)))
      have D22 : Row5 w22 w5.heap.size (.bool gd) (.int .u64 d0) (.int .u64 d1) (.int .u64 d2) (.int .u64 d3) := Row5.keep hb (by repeat (first | (with_reducible exact D21) | (with_reducible refine Row5.alloc ?_ _) | (with_reducible refine Row5.drew ?_)))
      have H22 : Row5 w22 w7.heap.size (.bool gh) (.int .u64 h0) (.int .u64 h1) (.int .u64 h2) (.int .u64 h3) := Row5.keep hb (by repeat (first | (with_reducible exact H21) | (with_reducible refine Row5.alloc ?_ _) | (with_reducible refine Row5.drew ?_)))
      have O22 : Row5 w22 w9.heap.size (.bool go) (.int .u64 o0) (.int .u64 o1) (.int .u64 o2) (.int .u64 o3) := Row5.keep hb (by repeat (first | (with_reducible exact O21) | (with_reducible refine Row5.alloc ?_ _) | (with_reducible refine Row5.drew ?_)))
      clear A21 B21 U21 D21 H21 O21
      clear BW21
      clear hb
      obtain ⟨Ac0, Ac1, Ac2, Ac3, Ac4⟩ := A22.parts
      obtain ⟨Af0, Af1, Af2, Af3, Af4⟩ := A22.free
      obtain ⟨Oc0, Oc1, Oc2, Oc3, Oc4⟩ := O22.parts
      obtain ⟨Of0, Of1, Of2, Of3, Of4⟩ := O22.free
      go_wp2_with fail
      (with_reducible refine (K16.out _).mono ?_)
      rintro e w23 ⟨rfl, hb⟩
      have BW23 : Below w.heap.size w w23 := btr (by repeat (first | (with_reducible exact BW22) | (with_reducible refine bal ?_ _) | (with_reducible refine Below.drew ?_) | (with_reducible refine bdn ?_ _))) hb
      have A23 : Row5 w23 w.heap.size (.bool ga) (.int .u64 a0) (.int .u64 a1) (.int .u64 a2) (.int .u64 a3) := Row5.keep hb (by repeat (first | (with_reducible exact A22) | (with_reducible refine Row5.alloc ?_ _) | (with_reducible refine Row5.drew ?_)))
      have B23 : Row5 w23 (w.heap.size + 1) (.bool gb) (.int .u64 b0) (.int .u64 b1) (.int .u64 b2) (.int .u64 b3) := Row5.keep hb (by repeat (first | (with_reducible exact B22) | (with_reducible refine Row5.alloc ?_ _) | (with_reducible refine Row5.drew ?_)))
      have U23 : Row5 w23 w3.heap.size (.bool gu) (.int .u64 u0) (.int .u64 u1) (.int .u64 u2) (.int .u64 u3) := Row5.keep hb (by repeat (first | (with_reducible exact U22) | (with_reducible refine Row5.alloc ?_ _) | (with_reducible refine Row5.drew ?_)))
      have D23 : Row5 w23 w5.heap.size (.bool gd) (.int .u64 d0) (.int .u64 d1) (.int .u64 d2) (.int .u64 d3) := Row5.keep hb (by repeat (first | (with_reducible exact D22) | (with_reducible refine Row5.alloc ?_ _) | (with_reducible refine Row5.drew ?_)))
      have H23 : Row5 w23 w7.heap.size (.bool gh) (.int .u64 h0) (.int .u64 h1) (.int .u64 h2) (.int .u64 h3) := Row5.keep hb (by repeat (first | (with_reducible exact H22) | (with_reducible refine Row5.alloc ?_ _) | (with_reducible refine Row5.drew ?_)))
      have O23 : Row5 w23 w9.heap.size (.bool go) (.int .u64 o0) (.int .u64 o1) (.int .u64 o2) (.int .u64 o3) := Row5.keep hb (by repeat (first | (with_reducible exact O22) | (with_reducible refine Row5.alloc ?_ _) | (with_reducible refine Row5.drew ?_)))
      clear A22 B22 U22 D22 H22 O22
      clear BW22
      clear hb
      go_wp2
      go_ret
      exact ⟨rfl, BW23⟩

set_option maxHeartbeats 20000000 in
set_option maxRecDepth 100000 in
theorem near_ft (ex : Bool) (ga gb gu gd gh go : Bool) (a0 a1 a2 a3 b0 b1 b2 b3 u0 u1 u2 u3 d0 d1 d2 d3 h0 h1 h2 h3 o0 o1 o2 o3 c ch co cha coa cd cda : Int) (hc : c = -1 ∨ c = 0 ∨ c = 1)
    (f1 : ex = true → c < 0) (f2 : ex = true → c ≤ 0 → 0 ≤ cd) (f3 : ex = false → 0 ≤ c → ch ≤ 0) (f4 : ex = false → c ≤ 0 → 0 ≤ co)
    (i2 : cda ≤ 0) (i3 : 0 ≤ cha) (i4 : coa ≤ 0)
    (m0 : ∀ W, Calls Tryd.prog 46 #[.agg #[.bool ga, .int .u64 a0, .int .u64 a1, .int .u64 a2, .int .u64 a3]] W fun e w' => e = .returned (.bool true) ∧ Below W.heap.size W w')
    (m1 : ∀ W, Calls Tryd.prog 46 #[.agg #[.bool gb, .int .u64 b0, .int .u64 b1, .int .u64 b2, .int .u64 b3]] W fun e w' => e = .returned (.bool true) ∧ Below W.heap.size W w')
    (k1 : ∀ W, Tb W → Calls Tryd.prog 66 #[.agg #[.bool ga, .int .u64 a0, .int .u64 a1, .int .u64 a2, .int .u64 a3]] W fun e w' => e = .returned (.tuple #[.agg #[.bool gu, .int .u64 u0, .int .u64 u1, .int .u64 u2, .int .u64 u3], .bool false]) ∧ Below W.heap.size W w')
    (k2 : ∀ W, Tb W → Calls Tryd.prog 68 #[.agg #[.bool ga, .int .u64 a0, .int .u64 a1, .int .u64 a2, .int .u64 a3]] W fun e w' => e = .returned (.tuple #[.agg #[.bool gd, .int .u64 d0, .int .u64 d1, .int .u64 d2, .int .u64 d3], .bool true]) ∧ Below W.heap.size W w')
    (k3 : ∀ W, Tb W → Calls Tryd.prog 69 #[.agg #[.bool ga, .int .u64 a0, .int .u64 a1, .int .u64 a2, .int .u64 a3]] W fun e w' => e = .returned (.tuple #[.agg #[.bool gh, .int .u64 h0, .int .u64 h1, .int .u64 h2, .int .u64 h3], .bool true]) ∧ Below W.heap.size W w')
    (k4 : ∀ W, Tb W → Calls Tryd.prog 70 #[.agg #[.bool ga, .int .u64 a0, .int .u64 a1, .int .u64 a2, .int .u64 a3]] W fun e w' => e = .returned (.tuple #[.agg #[.bool go, .int .u64 o0, .int .u64 o1, .int .u64 o2, .int .u64 o3], .bool true]) ∧ Below W.heap.size W w')
    (k5 : ∀ W, Tb W → Calls Tryd.prog 71 #[.agg #[.bool gb, .int .u64 b0, .int .u64 b1, .int .u64 b2, .int .u64 b3]] W fun e w' => e = .returned (.bool ex) ∧ Below W.heap.size W w')
    (k6 : ∀ W, Calls Tryd.prog 61 #[.agg #[.bool gb, .int .u64 b0, .int .u64 b1, .int .u64 b2, .int .u64 b3], .agg #[.bool ga, .int .u64 a0, .int .u64 a1, .int .u64 a2, .int .u64 a3]] W fun e w' => e = .returned (.int .i64 c) ∧ Below W.heap.size W w')
    (k9 : ∀ W, Calls Tryd.prog 61 #[.agg #[.bool gh, .int .u64 h0, .int .u64 h1, .int .u64 h2, .int .u64 h3], .agg #[.bool gb, .int .u64 b0, .int .u64 b1, .int .u64 b2, .int .u64 b3]] W fun e w' => e = .returned (.int .i64 ch) ∧ Below W.heap.size W w')
    (k10 : ∀ W, Calls Tryd.prog 61 #[.agg #[.bool go, .int .u64 o0, .int .u64 o1, .int .u64 o2, .int .u64 o3], .agg #[.bool gb, .int .u64 b0, .int .u64 b1, .int .u64 b2, .int .u64 b3]] W fun e w' => e = .returned (.int .i64 co) ∧ Below W.heap.size W w')
    (k13 : ∀ W, Tb W → Calls Tryd.prog 71 #[.agg #[.bool gh, .int .u64 h0, .int .u64 h1, .int .u64 h2, .int .u64 h3]] W fun e w' => e = .returned (.bool false) ∧ Below W.heap.size W w')
    (k14 : ∀ W, Calls Tryd.prog 61 #[.agg #[.bool gh, .int .u64 h0, .int .u64 h1, .int .u64 h2, .int .u64 h3], .agg #[.bool ga, .int .u64 a0, .int .u64 a1, .int .u64 a2, .int .u64 a3]] W fun e w' => e = .returned (.int .i64 cha) ∧ Below W.heap.size W w')
    (k15 : ∀ W, Tb W → Calls Tryd.prog 71 #[.agg #[.bool go, .int .u64 o0, .int .u64 o1, .int .u64 o2, .int .u64 o3]] W fun e w' => e = .returned (.bool false) ∧ Below W.heap.size W w')
    (k16 : ∀ W, Calls Tryd.prog 61 #[.agg #[.bool go, .int .u64 o0, .int .u64 o1, .int .u64 o2, .int .u64 o3], .agg #[.bool ga, .int .u64 a0, .int .u64 a1, .int .u64 a2, .int .u64 a3]] W fun e w' => e = .returned (.int .i64 coa) ∧ Below W.heap.size W w')
    (k8 : ∀ W, Calls Tryd.prog 61 #[.agg #[.bool gd, .int .u64 d0, .int .u64 d1, .int .u64 d2, .int .u64 d3], .agg #[.bool gb, .int .u64 b0, .int .u64 b1, .int .u64 b2, .int .u64 b3]] W fun e w' => e = .returned (.int .i64 cd) ∧ Below W.heap.size W w')
    (k17 : ∀ W, Tb W → Calls Tryd.prog 71 #[.agg #[.bool gd, .int .u64 d0, .int .u64 d1, .int .u64 d2, .int .u64 d3]] W fun e w' => e = .returned (.bool true) ∧ Below W.heap.size W w')
    (k18 : ∀ W, Calls Tryd.prog 61 #[.agg #[.bool gd, .int .u64 d0, .int .u64 d1, .int .u64 d2, .int .u64 d3], .agg #[.bool ga, .int .u64 a0, .int .u64 a1, .int .u64 a2, .int .u64 a3]] W fun e w' => e = .returned (.int .i64 cda) ∧ Below W.heap.size W w') (w : World) (hT : Tabs w) :
    Calls Tryd.prog 12 #[.agg #[.bool ga, .int .u64 a0, .int .u64 a1, .int .u64 a2, .int .u64 a3], .agg #[.bool gb, .int .u64 b0, .int .u64 b1, .int .u64 b2, .int .u64 b3]] w fun e w' => e = .returned (.bool true) ∧ Below w.heap.size w w' := by
  have M0 := Lib.hid m0; clear m0
  have M1 := Lib.hid m1; clear m1
  have K1 := Lib.hid k1; clear k1
  have K2 := Lib.hid k2; clear k2
  have K3 := Lib.hid k3; clear k3
  have K4 := Lib.hid k4; clear k4
  have K5 := Lib.hid k5; clear k5
  have K6 := Lib.hid k6; clear k6
  have K9 := Lib.hid k9; clear k9
  have K10 := Lib.hid k10; clear k10
  have K13 := Lib.hid k13; clear k13
  have K14 := Lib.hid k14; clear k14
  have K15 := Lib.hid k15; clear k15
  have K16 := Lib.hid k16; clear k16
  have K8 := Lib.hid k8; clear k8
  have K17 := Lib.hid k17; clear k17
  have K18 := Lib.hid k18; clear k18
  have HC := Lib.hid hc; clear hc
  have F1 := Lib.hid f1; clear f1
  have F2 := Lib.hid f2; clear f2
  have F3 := Lib.hid f3; clear f3
  have F4 := Lib.hid f4; clear f4
  have HT := Lib.hid hT; clear hT
  go_enter Tryd.func12, Tryd.ntmps12
  go_wp2_with fail
  (with_reducible refine (M0.out _).mono ?_)
  rintro e w1 ⟨rfl, hb⟩
  have BW1 : Below w.heap.size w w1 := btr (by repeat (first | (with_reducible exact Below.refl _ _) | (with_reducible refine bal ?_ _) | (with_reducible refine Below.drew ?_) | (with_reducible refine bdn ?_ _))) hb
  have A1 : Row5 w1 w.heap.size (.bool ga) (.int .u64 a0) (.int .u64 a1) (.int .u64 a2) (.int .u64 a3) := Row5.keep hb (by repeat (first | (with_reducible exact Row5.new _ _ _ _ _ _) | ((with_reducible refine Row5.new' _ ?_ _ _ _ _ _); (simp; done)) | (with_reducible refine Row5.alloc ?_ _) | (with_reducible refine Row5.drew ?_)))
  have B1 : Row5 w1 (w.heap.size + 1) (.bool gb) (.int .u64 b0) (.int .u64 b1) (.int .u64 b2) (.int .u64 b3) := Row5.keep hb (by repeat (first | (with_reducible exact Row5.new _ _ _ _ _ _) | ((with_reducible refine Row5.new' _ ?_ _ _ _ _ _); (simp; done)) | (with_reducible refine Row5.alloc ?_ _) | (with_reducible refine Row5.drew ?_)))
  clear hb
  obtain ⟨Bc0, Bc1, Bc2, Bc3, Bc4⟩ := B1.parts
  obtain ⟨Bf0, Bf1, Bf2, Bf3, Bf4⟩ := B1.free
  go_wp2_with fail
  (with_reducible refine (M1.out _).mono ?_)
  rintro e w2 ⟨rfl, hb⟩
  have BW2 : Below w.heap.size w w2 := btr (by repeat (first | (with_reducible exact BW1) | (with_reducible refine bal ?_ _) | (with_reducible refine Below.drew ?_) | (with_reducible refine bdn ?_ _))) hb
  have A2 : Row5 w2 w.heap.size (.bool ga) (.int .u64 a0) (.int .u64 a1) (.int .u64 a2) (.int .u64 a3) := Row5.keep hb (by repeat (first | (with_reducible exact A1) | (with_reducible refine Row5.alloc ?_ _) | (with_reducible refine Row5.drew ?_)))
  have B2 : Row5 w2 (w.heap.size + 1) (.bool gb) (.int .u64 b0) (.int .u64 b1) (.int .u64 b2) (.int .u64 b3) := Row5.keep hb (by repeat (first | (with_reducible exact B1) | (with_reducible refine Row5.alloc ?_ _) | (with_reducible refine Row5.drew ?_)))
  clear A1 B1
  clear BW1
  clear hb
  obtain ⟨Ac0, Ac1, Ac2, Ac3, Ac4⟩ := A2.parts
  obtain ⟨Af0, Af1, Af2, Af3, Af4⟩ := A2.free
  go_wp2_with fail
  refine (K1.out _ (tb_on HT.out.2 (by repeat (first | (with_reducible exact BW2) | (with_reducible refine bal ?_ _) | (with_reducible refine Below.drew ?_) | (with_reducible refine bdn ?_ _))))).mono ?_
  rintro e w3 ⟨rfl, hb⟩
  have BW3 : Below w.heap.size w w3 := btr (by repeat (first | (with_reducible exact BW2) | (with_reducible refine bal ?_ _) | (with_reducible refine Below.drew ?_) | (with_reducible refine bdn ?_ _))) hb
  have A3 : Row5 w3 w.heap.size (.bool ga) (.int .u64 a0) (.int .u64 a1) (.int .u64 a2) (.int .u64 a3) := Row5.keep hb (by repeat (first | (with_reducible exact A2) | (with_reducible refine Row5.alloc ?_ _) | (with_reducible refine Row5.drew ?_)))
  have B3 : Row5 w3 (w.heap.size + 1) (.bool gb) (.int .u64 b0) (.int .u64 b1) (.int .u64 b2) (.int .u64 b3) := Row5.keep hb (by repeat (first | (with_reducible exact B2) | (with_reducible refine Row5.alloc ?_ _) | (with_reducible refine Row5.drew ?_)))
  clear A2 B2
  clear BW2
  clear hb
  go_upto_region 4 with (fail)
  go_name_world w4 hw4
  have BW4 : Below w.heap.size w w4 := by rw [← hw4]; repeat (first | (with_reducible exact BW3) | (with_reducible refine bal ?_ _) | (with_reducible refine Below.drew ?_) | (with_reducible refine bdn ?_ _))
  have A4 : Row5 w4 w.heap.size (.bool ga) (.int .u64 a0) (.int .u64 a1) (.int .u64 a2) (.int .u64 a3) := by rw [← hw4]; exact (by repeat (first | (with_reducible exact A3) | (with_reducible refine Row5.alloc ?_ _) | (with_reducible refine Row5.drew ?_)))
  have B4 : Row5 w4 (w.heap.size + 1) (.bool gb) (.int .u64 b0) (.int .u64 b1) (.int .u64 b2) (.int .u64 b3) := by rw [← hw4]; exact (by repeat (first | (with_reducible exact B3) | (with_reducible refine Row5.alloc ?_ _) | (with_reducible refine Row5.drew ?_)))
  have apU_A := A3.lt
  have apU_B := B3.lt
  have apU_0 := (BW3).size
  have U4 : Row5 w4 w3.heap.size (.bool gu) (.int .u64 u0) (.int .u64 u1) (.int .u64 u2) (.int .u64 u3) := by rw [← hw4]; exact (by repeat (first | (with_reducible exact Row5.new _ _ _ _ _ _) | ((with_reducible refine Row5.new' _ ?_ _ _ _ _ _); (simp; done)) | (with_reducible refine Row5.alloc ?_ _) | (with_reducible refine Row5.drew ?_)))
  clear A3 B3
  clear BW3
  clear hw4
  obtain ⟨Ac0, Ac1, Ac2, Ac3, Ac4⟩ := A4.parts
  obtain ⟨Af0, Af1, Af2, Af3, Af4⟩ := A4.free
  go_wp2_with fail
  refine (K2.out _ (tb_on HT.out.2 (by repeat (first | (with_reducible exact BW4) | (with_reducible refine bal ?_ _) | (with_reducible refine Below.drew ?_) | (with_reducible refine bdn ?_ _))))).mono ?_
  rintro e w5 ⟨rfl, hb⟩
  have BW5 : Below w.heap.size w w5 := btr (by repeat (first | (with_reducible exact BW4) | (with_reducible refine bal ?_ _) | (with_reducible refine Below.drew ?_) | (with_reducible refine bdn ?_ _))) hb
  have A5 : Row5 w5 w.heap.size (.bool ga) (.int .u64 a0) (.int .u64 a1) (.int .u64 a2) (.int .u64 a3) := Row5.keep hb (by repeat (first | (with_reducible exact A4) | (with_reducible refine Row5.alloc ?_ _) | (with_reducible refine Row5.drew ?_)))
  have B5 : Row5 w5 (w.heap.size + 1) (.bool gb) (.int .u64 b0) (.int .u64 b1) (.int .u64 b2) (.int .u64 b3) := Row5.keep hb (by repeat (first | (with_reducible exact B4) | (with_reducible refine Row5.alloc ?_ _) | (with_reducible refine Row5.drew ?_)))
  have U5 : Row5 w5 w3.heap.size (.bool gu) (.int .u64 u0) (.int .u64 u1) (.int .u64 u2) (.int .u64 u3) := Row5.keep hb (by repeat (first | (with_reducible exact U4) | (with_reducible refine Row5.alloc ?_ _) | (with_reducible refine Row5.drew ?_)))
  clear A4 B4 U4
  clear BW4
  clear hb
  go_upto_region 5 with (fail)
  go_name_world w6 hw6
  have BW6 : Below w.heap.size w w6 := by rw [← hw6]; repeat (first | (with_reducible exact BW5) | (with_reducible refine bal ?_ _) | (with_reducible refine Below.drew ?_) | (with_reducible refine bdn ?_ _))
  have A6 : Row5 w6 w.heap.size (.bool ga) (.int .u64 a0) (.int .u64 a1) (.int .u64 a2) (.int .u64 a3) := by rw [← hw6]; exact (by repeat (first | (with_reducible exact A5) | (with_reducible refine Row5.alloc ?_ _) | (with_reducible refine Row5.drew ?_)))
  have B6 : Row5 w6 (w.heap.size + 1) (.bool gb) (.int .u64 b0) (.int .u64 b1) (.int .u64 b2) (.int .u64 b3) := by rw [← hw6]; exact (by repeat (first | (with_reducible exact B5) | (with_reducible refine Row5.alloc ?_ _) | (with_reducible refine Row5.drew ?_)))
  have U6 : Row5 w6 w3.heap.size (.bool gu) (.int .u64 u0) (.int .u64 u1) (.int .u64 u2) (.int .u64 u3) := by rw [← hw6]; exact (by repeat (first | (with_reducible exact U5) | (with_reducible refine Row5.alloc ?_ _) | (with_reducible refine Row5.drew ?_)))
  have apD_A := A5.lt
  have apD_B := B5.lt
  have apD_U := U5.lt
  have apD_0 := (BW5).size
  have D6 : Row5 w6 w5.heap.size (.bool gd) (.int .u64 d0) (.int .u64 d1) (.int .u64 d2) (.int .u64 d3) := by rw [← hw6]; exact (by repeat (first | (with_reducible exact Row5.new _ _ _ _ _ _) | ((with_reducible refine Row5.new' _ ?_ _ _ _ _ _); (simp; done)) | (with_reducible refine Row5.alloc ?_ _) | (with_reducible refine Row5.drew ?_)))
  clear A5 B5 U5
  clear BW5
  clear hw6
  obtain ⟨Ac0, Ac1, Ac2, Ac3, Ac4⟩ := A6.parts
  obtain ⟨Af0, Af1, Af2, Af3, Af4⟩ := A6.free
  go_wp2_with fail
  refine (K3.out _ (tb_on HT.out.2 (by repeat (first | (with_reducible exact BW6) | (with_reducible refine bal ?_ _) | (with_reducible refine Below.drew ?_) | (with_reducible refine bdn ?_ _))))).mono ?_
  rintro e w7 ⟨rfl, hb⟩
  have BW7 : Below w.heap.size w w7 := btr (by repeat (first | (with_reducible exact BW6) | (with_reducible refine bal ?_ _) | (with_reducible refine Below.drew ?_) | (with_reducible refine bdn ?_ _))) hb
  have A7 : Row5 w7 w.heap.size (.bool ga) (.int .u64 a0) (.int .u64 a1) (.int .u64 a2) (.int .u64 a3) := Row5.keep hb (by repeat (first | (with_reducible exact A6) | (with_reducible refine Row5.alloc ?_ _) | (with_reducible refine Row5.drew ?_)))
  have B7 : Row5 w7 (w.heap.size + 1) (.bool gb) (.int .u64 b0) (.int .u64 b1) (.int .u64 b2) (.int .u64 b3) := Row5.keep hb (by repeat (first | (with_reducible exact B6) | (with_reducible refine Row5.alloc ?_ _) | (with_reducible refine Row5.drew ?_)))
  have U7 : Row5 w7 w3.heap.size (.bool gu) (.int .u64 u0) (.int .u64 u1) (.int .u64 u2) (.int .u64 u3) := Row5.keep hb (by repeat (first | (with_reducible exact U6) | (with_reducible refine Row5.alloc ?_ _) | (with_reducible refine Row5.drew ?_)))
  have D7 : Row5 w7 w5.heap.size (.bool gd) (.int .u64 d0) (.int .u64 d1) (.int .u64 d2) (.int .u64 d3) := Row5.keep hb (by repeat (first | (with_reducible exact D6) | (with_reducible refine Row5.alloc ?_ _) | (with_reducible refine Row5.drew ?_)))
  clear A6 B6 U6 D6
  clear BW6
  clear hb
  go_upto_region 6 with (fail)
  go_name_world w8 hw8
  have BW8 : Below w.heap.size w w8 := by rw [← hw8]; repeat (first | (with_reducible exact BW7) | (with_reducible refine bal ?_ _) | (with_reducible refine Below.drew ?_) | (with_reducible refine bdn ?_ _))
  have A8 : Row5 w8 w.heap.size (.bool ga) (.int .u64 a0) (.int .u64 a1) (.int .u64 a2) (.int .u64 a3) := by rw [← hw8]; exact (by repeat (first | (with_reducible exact A7) | (with_reducible refine Row5.alloc ?_ _) | (with_reducible refine Row5.drew ?_)))
  have B8 : Row5 w8 (w.heap.size + 1) (.bool gb) (.int .u64 b0) (.int .u64 b1) (.int .u64 b2) (.int .u64 b3) := by rw [← hw8]; exact (by repeat (first | (with_reducible exact B7) | (with_reducible refine Row5.alloc ?_ _) | (with_reducible refine Row5.drew ?_)))
  have U8 : Row5 w8 w3.heap.size (.bool gu) (.int .u64 u0) (.int .u64 u1) (.int .u64 u2) (.int .u64 u3) := by rw [← hw8]; exact (by repeat (first | (with_reducible exact U7) | (with_reducible refine Row5.alloc ?_ _) | (with_reducible refine Row5.drew ?_)))
  have D8 : Row5 w8 w5.heap.size (.bool gd) (.int .u64 d0) (.int .u64 d1) (.int .u64 d2) (.int .u64 d3) := by rw [← hw8]; exact (by repeat (first | (with_reducible exact D7) | (with_reducible refine Row5.alloc ?_ _) | (with_reducible refine Row5.drew ?_)))
  have apH_A := A7.lt
  have apH_B := B7.lt
  have apH_U := U7.lt
  have apH_D := D7.lt
  have apH_0 := (BW7).size
  have H8 : Row5 w8 w7.heap.size (.bool gh) (.int .u64 h0) (.int .u64 h1) (.int .u64 h2) (.int .u64 h3) := by rw [← hw8]; exact (by repeat (first | (with_reducible exact Row5.new _ _ _ _ _ _) | ((with_reducible refine Row5.new' _ ?_ _ _ _ _ _); (simp; done)) | (with_reducible refine Row5.alloc ?_ _) | (with_reducible refine Row5.drew ?_)))
  clear A7 B7 U7 D7
  clear BW7
  clear hw8
  obtain ⟨Ac0, Ac1, Ac2, Ac3, Ac4⟩ := A8.parts
  obtain ⟨Af0, Af1, Af2, Af3, Af4⟩ := A8.free
  go_wp2_with fail
  refine (K4.out _ (tb_on HT.out.2 (by repeat (first | (with_reducible exact BW8) | (with_reducible refine bal ?_ _) | (with_reducible refine Below.drew ?_) | (with_reducible refine bdn ?_ _))))).mono ?_
  rintro e w9 ⟨rfl, hb⟩
  have BW9 : Below w.heap.size w w9 := btr (by repeat (first | (with_reducible exact BW8) | (with_reducible refine bal ?_ _) | (with_reducible refine Below.drew ?_) | (with_reducible refine bdn ?_ _))) hb
  have A9 : Row5 w9 w.heap.size (.bool ga) (.int .u64 a0) (.int .u64 a1) (.int .u64 a2) (.int .u64 a3) := Row5.keep hb (by repeat (first | (with_reducible exact A8) | (with_reducible refine Row5.alloc ?_ _) | (with_reducible refine Row5.drew ?_)))
  have B9 : Row5 w9 (w.heap.size + 1) (.bool gb) (.int .u64 b0) (.int .u64 b1) (.int .u64 b2) (.int .u64 b3) := Row5.keep hb (by repeat (first | (with_reducible exact B8) | (with_reducible refine Row5.alloc ?_ _) | (with_reducible refine Row5.drew ?_)))
  have U9 : Row5 w9 w3.heap.size (.bool gu) (.int .u64 u0) (.int .u64 u1) (.int .u64 u2) (.int .u64 u3) := Row5.keep hb (by repeat (first | (with_reducible exact U8) | (with_reducible refine Row5.alloc ?_ _) | (with_reducible refine Row5.drew ?_)))
  have D9 : Row5 w9 w5.heap.size (.bool gd) (.int .u64 d0) (.int .u64 d1) (.int .u64 d2) (.int .u64 d3) := Row5.keep hb (by repeat (first | (with_reducible exact D8) | (with_reducible refine Row5.alloc ?_ _) | (with_reducible refine Row5.drew ?_)))
  have H9 : Row5 w9 w7.heap.size (.bool gh) (.int .u64 h0) (.int .u64 h1) (.int .u64 h2) (.int .u64 h3) := Row5.keep hb (by repeat (first | (with_reducible exact H8) | (with_reducible refine Row5.alloc ?_ _) | (with_reducible refine Row5.drew ?_)))
  clear A8 B8 U8 D8 H8
  clear BW8
  clear hb
  go_upto_region 7 with (fail)
  go_name_world w10 hw10
  have BW10 : Below w.heap.size w w10 := by rw [← hw10]; repeat (first | (with_reducible exact BW9) | (with_reducible refine bal ?_ _) | (with_reducible refine Below.drew ?_) | (with_reducible refine bdn ?_ _))
  have A10 : Row5 w10 w.heap.size (.bool ga) (.int .u64 a0) (.int .u64 a1) (.int .u64 a2) (.int .u64 a3) := by rw [← hw10]; exact (by repeat (first | (with_reducible exact A9) | (with_reducible refine Row5.alloc ?_ _) | (with_reducible refine Row5.drew ?_)))
  have B10 : Row5 w10 (w.heap.size + 1) (.bool gb) (.int .u64 b0) (.int .u64 b1) (.int .u64 b2) (.int .u64 b3) := by rw [← hw10]; exact (by repeat (first | (with_reducible exact B9) | (with_reducible refine Row5.alloc ?_ _) | (with_reducible refine Row5.drew ?_)))
  have U10 : Row5 w10 w3.heap.size (.bool gu) (.int .u64 u0) (.int .u64 u1) (.int .u64 u2) (.int .u64 u3) := by rw [← hw10]; exact (by repeat (first | (with_reducible exact U9) | (with_reducible refine Row5.alloc ?_ _) | (with_reducible refine Row5.drew ?_)))
  have D10 : Row5 w10 w5.heap.size (.bool gd) (.int .u64 d0) (.int .u64 d1) (.int .u64 d2) (.int .u64 d3) := by rw [← hw10]; exact (by repeat (first | (with_reducible exact D9) | (with_reducible refine Row5.alloc ?_ _) | (with_reducible refine Row5.drew ?_)))
  have H10 : Row5 w10 w7.heap.size (.bool gh) (.int .u64 h0) (.int .u64 h1) (.int .u64 h2) (.int .u64 h3) := by rw [← hw10]; exact (by repeat (first | (with_reducible exact H9) | (with_reducible refine Row5.alloc ?_ _) | (with_reducible refine Row5.drew ?_)))
  have apO_A := A9.lt
  have apO_B := B9.lt
  have apO_U := U9.lt
  have apO_D := D9.lt
  have apO_H := H9.lt
  have apO_0 := (BW9).size
  have O10 : Row5 w10 w9.heap.size (.bool go) (.int .u64 o0) (.int .u64 o1) (.int .u64 o2) (.int .u64 o3) := by rw [← hw10]; exact (by repeat (first | (with_reducible exact Row5.new _ _ _ _ _ _) | ((with_reducible refine Row5.new' _ ?_ _ _ _ _ _); (simp; done)) | (with_reducible refine Row5.alloc ?_ _) | (with_reducible refine Row5.drew ?_)))
  clear A9 B9 U9 D9 H9
  clear BW9
  clear hw10
  obtain ⟨Bc0, Bc1, Bc2, Bc3, Bc4⟩ := B10.parts
  obtain ⟨Bf0, Bf1, Bf2, Bf3, Bf4⟩ := B10.free
  go_wp2_with fail
  refine (K5.out _ (tb_on HT.out.2 (by repeat (first | (with_reducible exact BW10) | (with_reducible refine bal ?_ _) | (with_reducible refine Below.drew ?_) | (with_reducible refine bdn ?_ _))))).mono ?_
  rintro e w11 ⟨rfl, hb⟩
  have BW11 : Below w.heap.size w w11 := btr (by repeat (first | (with_reducible exact BW10) | (with_reducible refine bal ?_ _) | (with_reducible refine Below.drew ?_) | (with_reducible refine bdn ?_ _))) hb
  have A11 : Row5 w11 w.heap.size (.bool ga) (.int .u64 a0) (.int .u64 a1) (.int .u64 a2) (.int .u64 a3) := Row5.keep hb (by repeat (first | (with_reducible exact A10) | (with_reducible refine Row5.alloc ?_ _) | (with_reducible refine Row5.drew ?_)))
  have B11 : Row5 w11 (w.heap.size + 1) (.bool gb) (.int .u64 b0) (.int .u64 b1) (.int .u64 b2) (.int .u64 b3) := Row5.keep hb (by repeat (first | (with_reducible exact B10) | (with_reducible refine Row5.alloc ?_ _) | (with_reducible refine Row5.drew ?_)))
  have U11 : Row5 w11 w3.heap.size (.bool gu) (.int .u64 u0) (.int .u64 u1) (.int .u64 u2) (.int .u64 u3) := Row5.keep hb (by repeat (first | (with_reducible exact U10) | (with_reducible refine Row5.alloc ?_ _) | (with_reducible refine Row5.drew ?_)))
  have D11 : Row5 w11 w5.heap.size (.bool gd) (.int .u64 d0) (.int .u64 d1) (.int .u64 d2) (.int .u64 d3) := Row5.keep hb (by repeat (first | (with_reducible exact D10) | (with_reducible refine Row5.alloc ?_ _) | (with_reducible refine Row5.drew ?_)))
  have H11 : Row5 w11 w7.heap.size (.bool gh) (.int .u64 h0) (.int .u64 h1) (.int .u64 h2) (.int .u64 h3) := Row5.keep hb (by repeat (first | (with_reducible exact H10) | (with_reducible refine Row5.alloc ?_ _) | (with_reducible refine Row5.drew ?_)))
  have O11 : Row5 w11 w9.heap.size (.bool go) (.int .u64 o0) (.int .u64 o1) (.int .u64 o2) (.int .u64 o3) := Row5.keep hb (by repeat (first | (with_reducible exact O10) | (with_reducible refine Row5.alloc ?_ _) | (with_reducible refine Row5.drew ?_)))
  clear A10 B10 U10 D10 H10 O10
  clear BW10
  clear hb
  obtain ⟨Ac0, Ac1, Ac2, Ac3, Ac4⟩ := A11.parts
  obtain ⟨Af0, Af1, Af2, Af3, Af4⟩ := A11.free
  obtain ⟨Bc0, Bc1, Bc2, Bc3, Bc4⟩ := B11.parts
  obtain ⟨Bf0, Bf1, Bf2, Bf3, Bf4⟩ := B11.free
  go_wp2_with fail
  (with_reducible refine (K6.out _).mono ?_)
  rintro e w12 ⟨rfl, hb⟩
  have BW12 : Below w.heap.size w w12 := btr (by repeat (first | (with_reducible exact BW11) | (with_reducible refine bal ?_ _) | (with_reducible refine Below.drew ?_) | (with_reducible refine bdn ?_ _))) hb
  have A12 : Row5 w12 w.heap.size (.bool ga) (.int .u64 a0) (.int .u64 a1) (.int .u64 a2) (.int .u64 a3) := Row5.keep hb (by repeat (first | (with_reducible exact A11) | (with_reducible refine Row5.alloc ?_ _) | (with_reducible refine Row5.drew ?_)))
  have B12 : Row5 w12 (w.heap.size + 1) (.bool gb) (.int .u64 b0) (.int .u64 b1) (.int .u64 b2) (.int .u64 b3) := Row5.keep hb (by repeat (first | (with_reducible exact B11) | (with_reducible refine Row5.alloc ?_ _) | (with_reducible refine Row5.drew ?_)))
  have U12 : Row5 w12 w3.heap.size (.bool gu) (.int .u64 u0) (.int .u64 u1) (.int .u64 u2) (.int .u64 u3) := Row5.keep hb (by repeat (first | (with_reducible exact U11) | (with_reducible refine Row5.alloc ?_ _) | (with_reducible refine Row5.drew ?_)))
  have D12 : Row5 w12 w5.heap.size (.bool gd) (.int .u64 d0) (.int .u64 d1) (.int .u64 d2) (.int .u64 d3) := Row5.keep hb (by repeat (first | (with_reducible exact D11) | (with_reducible refine Row5.alloc ?_ _) | (with_reducible refine Row5.drew ?_)))
  have H12 : Row5 w12 w7.heap.size (.bool gh) (.int .u64 h0) (.int .u64 h1) (.int .u64 h2) (.int .u64 h3) := Row5.keep hb (by repeat (first | (with_reducible exact H11) | (with_reducible refine Row5.alloc ?_ _) | (with_reducible refine Row5.drew ?_)))
  have O12 : Row5 w12 w9.heap.size (.bool go) (.int .u64 o0) (.int .u64 o1) (.int .u64 o2) (.int .u64 o3) := Row5.keep hb (by repeat (first | (with_reducible exact O11) | (with_reducible refine Row5.alloc ?_ _) | (with_reducible refine Row5.drew ?_)))
  clear A11 B11 U11 D11 H11 O11
  clear BW11
  clear hb
  go_upto_region 9 with (fail)
  go_name_world w13 hw13
  have BW13 : Below w.heap.size w w13 := by rw [← hw13]; repeat (first | (with_reducible exact BW12) | (with_reducible refine bal ?_ _) | (with_reducible refine Below.drew ?_) | (with_reducible refine bdn ?_ _))
  have A13 : Row5 w13 w.heap.size (.bool ga) (.int .u64 a0) (.int .u64 a1) (.int .u64 a2) (.int .u64 a3) := by rw [← hw13]; exact (by repeat (first | (with_reducible exact A12) | (with_reducible refine Row5.alloc ?_ _) | (with_reducible refine Row5.drew ?_)))
  have B13 : Row5 w13 (w.heap.size + 1) (.bool gb) (.int .u64 b0) (.int .u64 b1) (.int .u64 b2) (.int .u64 b3) := by rw [← hw13]; exact (by repeat (first | (with_reducible exact B12) | (with_reducible refine Row5.alloc ?_ _) | (with_reducible refine Row5.drew ?_)))
  have U13 : Row5 w13 w3.heap.size (.bool gu) (.int .u64 u0) (.int .u64 u1) (.int .u64 u2) (.int .u64 u3) := by rw [← hw13]; exact (by repeat (first | (with_reducible exact U12) | (with_reducible refine Row5.alloc ?_ _) | (with_reducible refine Row5.drew ?_)))
  have D13 : Row5 w13 w5.heap.size (.bool gd) (.int .u64 d0) (.int .u64 d1) (.int .u64 d2) (.int .u64 d3) := by rw [← hw13]; exact (by repeat (first | (with_reducible exact D12) | (with_reducible refine Row5.alloc ?_ _) | (with_reducible refine Row5.drew ?_)))
  have H13 : Row5 w13 w7.heap.size (.bool gh) (.int .u64 h0) (.int .u64 h1) (.int .u64 h2) (.int .u64 h3) := by rw [← hw13]; exact (by repeat (first | (with_reducible exact H12) | (with_reducible refine Row5.alloc ?_ _) | (with_reducible refine Row5.drew ?_)))
  have O13 : Row5 w13 w9.heap.size (.bool go) (.int .u64 o0) (.int .u64 o1) (.int .u64 o2) (.int .u64 o3) := by rw [← hw13]; exact (by repeat (first | (with_reducible exact O12) | (with_reducible refine Row5.alloc ?_ _) | (with_reducible refine Row5.drew ?_)))
  clear A12 B12 U12 D12 H12 O12
  clear BW12
  clear hw13
  go_cut [77] (fun sx wx => sx = .bool false ∧ Row5 wx w.heap.size (.bool ga) (.int .u64 a0) (.int .u64 a1) (.int .u64 a2) (.int .u64 a3) ∧ Row5 wx (w.heap.size + 1) (.bool gb) (.int .u64 b0) (.int .u64 b1) (.int .u64 b2) (.int .u64 b3) ∧ Row5 wx w3.heap.size (.bool gu) (.int .u64 u0) (.int .u64 u1) (.int .u64 u2) (.int .u64 u3) ∧ Row5 wx w5.heap.size (.bool gd) (.int .u64 d0) (.int .u64 d1) (.int .u64 d2) (.int .u64 d3) ∧ Row5 wx w7.heap.size (.bool gh) (.int .u64 h0) (.int .u64 h1) (.int .u64 h2) (.int .u64 h3) ∧ Row5 wx w9.heap.size (.bool go) (.int .u64 o0) (.int .u64 o1) (.int .u64 o2) (.int .u64 o3) ∧ Below w.heap.size w wx)
  case first =>
    cases ex <;> rcases HC.out with hc | hc | hc
    · subst hc; clear HC
      go_wp2
      go_meet
      exact ⟨(by first | rfl | exact congrArg Value.bool (decide_eq_false (by omega)) | exact congrArg Value.bool (by rw [decide_eq_false (by omega), decide_eq_false (by omega)]; rfl)), (by repeat (first | (with_reducible exact A13) | (with_reducible refine Row5.drew ?_))), (by repeat (first | (with_reducible exact B13) | (with_reducible refine Row5.drew ?_))), (by repeat (first | (with_reducible exact U13) | (with_reducible refine Row5.drew ?_))), (by repeat (first | (with_reducible exact D13) | (with_reducible refine Row5.drew ?_))), (by repeat (first | (with_reducible exact H13) | (with_reducible refine Row5.drew ?_))), (by repeat (first | (with_reducible exact O13) | (with_reducible refine Row5.drew ?_))), BW13⟩
    · subst hc; clear HC
      go_wp2
      go_meet
      exact ⟨(by first | rfl | exact congrArg Value.bool (decide_eq_false (by omega)) | exact congrArg Value.bool (by rw [decide_eq_false (by omega), decide_eq_false (by omega)]; rfl)), (by repeat (first | (with_reducible exact A13) | (with_reducible refine Row5.drew ?_))), (by repeat (first | (with_reducible exact B13) | (with_reducible refine Row5.drew ?_))), (by repeat (first | (with_reducible exact U13) | (with_reducible refine Row5.drew ?_))), (by repeat (first | (with_reducible exact D13) | (with_reducible refine Row5.drew ?_))), (by repeat (first | (with_reducible exact H13) | (with_reducible refine Row5.drew ?_))), (by repeat (first | (with_reducible exact O13) | (with_reducible refine Row5.drew ?_))), BW13⟩
    · subst hc; clear HC
      go_wp2
      go_meet
      exact ⟨(by first | rfl | exact congrArg Value.bool (decide_eq_false (by omega)) | exact congrArg Value.bool (by rw [decide_eq_false (by omega), decide_eq_false (by omega)]; rfl)), (by repeat (first | (with_reducible exact A13) | (with_reducible refine Row5.drew ?_))), (by repeat (first | (with_reducible exact B13) | (with_reducible refine Row5.drew ?_))), (by repeat (first | (with_reducible exact U13) | (with_reducible refine Row5.drew ?_))), (by repeat (first | (with_reducible exact D13) | (with_reducible refine Row5.drew ?_))), (by repeat (first | (with_reducible exact H13) | (with_reducible refine Row5.drew ?_))), (by repeat (first | (with_reducible exact O13) | (with_reducible refine Row5.drew ?_))), BW13⟩
    · subst hc; clear HC
      have j2 := F2.out rfl (by decide)
      clear F1 F2 F3 F4
      obtain ⟨Bc0, Bc1, Bc2, Bc3, Bc4⟩ := B13.parts
      obtain ⟨Bf0, Bf1, Bf2, Bf3, Bf4⟩ := B13.free
      obtain ⟨Dc0, Dc1, Dc2, Dc3, Dc4⟩ := D13.parts
      obtain ⟨Df0, Df1, Df2, Df3, Df4⟩ := D13.free
      go_wp2_with fail
      (with_reducible refine (K8.out _).mono ?_)
      rintro e w14 ⟨rfl, hb⟩
      have BW14 : Below w.heap.size w w14 := btr (by repeat (first | (with_reducible exact BW13) | (with_reducible refine bal ?_ _) | (with_reducible refine Below.drew ?_) | (with_reducible refine bdn ?_ _))) hb
      have A14 : Row5 w14 w.heap.size (.bool ga) (.int .u64 a0) (.int .u64 a1) (.int .u64 a2) (.int .u64 a3) := Row5.keep hb (by repeat (first | (with_reducible exact A13) | (with_reducible refine Row5.alloc ?_ _) | (with_reducible refine Row5.drew ?_)))
      have B14 : Row5 w14 (w.heap.size + 1) (.bool gb) (.int .u64 b0) (.int .u64 b1) (.int .u64 b2) (.int .u64 b3) := Row5.keep hb (by repeat (first | (with_reducible exact B13) | (with_reducible refine Row5.alloc ?_ _) | (with_reducible refine Row5.drew ?_)))
      have U14 : Row5 w14 w3.heap.size (.bool gu) (.int .u64 u0) (.int .u64 u1) (.int .u64 u2) (.int .u64 u3) := Row5.keep hb (by repeat (first | (with_reducible exact U13) | (with_reducible refine Row5.alloc ?_ _) | (with_reducible refine Row5.drew ?_)))
      have D14 : Row5 w14 w5.heap.size (.bool gd) (.int .u64 d0) (.int .u64 d1) (.int .u64 d2) (.int .u64 d3) := Row5.keep hb (by repeat (first | (with_reducible exact D13) | (with_reducible refine Row5.alloc ?_ _) | (with_reducible refine Row5.drew ?_)))
      have H14 : Row5 w14 w7.heap.size (.bool gh) (.int .u64 h0) (.int .u64 h1) (.int .u64 h2) (.int .u64 h3) := Row5.keep hb (by repeat (first | (with_reducible exact H13) | (with_reducible refine Row5.alloc ?_ _) | (with_reducible refine Row5.drew ?_)))
      have O14 : Row5 w14 w9.heap.size (.bool go) (.int .u64 o0) (.int .u64 o1) (.int .u64 o2) (.int .u64 o3) := Row5.keep hb (by repeat (first | (with_reducible exact O13) | (with_reducible refine Row5.alloc ?_ _) | (with_reducible refine Row5.drew ?_)))
      clear A13 B13 U13 D13 H13 O13
      clear BW13
      clear hb
      go_wp2
      go_meet
      exact ⟨(by first | rfl | exact congrArg Value.bool (decide_eq_false (by omega)) | exact congrArg Value.bool (by rw [decide_eq_false (by omega), decide_eq_false (by omega)]; rfl)), A14, B14, U14, D14, H14, O14, BW14⟩
    · subst hc; clear HC
      exact absurd (F1.out rfl) (by decide)
    · subst hc; clear HC
      exact absurd (F1.out rfl) (by decide)
  case rest =>
    generalize wc = w14 at *
    clear A13
    clear B13
    clear U13
    clear D13
    clear H13
    clear O13
    clear BW13
    obtain ⟨rfl, A14, B14, U14, D14, H14, O14, BW14⟩ := hcut
    go_upto_region 11 with (fail)
    go_name_world w15 hw15
    have BW15 : Below w.heap.size w w15 := by rw [← hw15]; repeat (first | (with_reducible exact BW14) | (with_reducible refine bal ?_ _) | (with_reducible refine Below.drew ?_) | (with_reducible refine bdn ?_ _))
    have A15 : Row5 w15 w.heap.size (.bool ga) (.int .u64 a0) (.int .u64 a1) (.int .u64 a2) (.int .u64 a3) := by rw [← hw15]; exact (by repeat (first | (with_reducible exact A14) | (with_reducible refine Row5.alloc ?_ _) | (with_reducible refine Row5.drew ?_)))
    have B15 : Row5 w15 (w.heap.size + 1) (.bool gb) (.int .u64 b0) (.int .u64 b1) (.int .u64 b2) (.int .u64 b3) := by rw [← hw15]; exact (by repeat (first | (with_reducible exact B14) | (with_reducible refine Row5.alloc ?_ _) | (with_reducible refine Row5.drew ?_)))
    have U15 : Row5 w15 w3.heap.size (.bool gu) (.int .u64 u0) (.int .u64 u1) (.int .u64 u2) (.int .u64 u3) := by rw [← hw15]; exact (by repeat (first | (with_reducible exact U14) | (with_reducible refine Row5.alloc ?_ _) | (with_reducible refine Row5.drew ?_)))
    have D15 : Row5 w15 w5.heap.size (.bool gd) (.int .u64 d0) (.int .u64 d1) (.int .u64 d2) (.int .u64 d3) := by rw [← hw15]; exact (by repeat (first | (with_reducible exact D14) | (with_reducible refine Row5.alloc ?_ _) | (with_reducible refine Row5.drew ?_)))
    have H15 : Row5 w15 w7.heap.size (.bool gh) (.int .u64 h0) (.int .u64 h1) (.int .u64 h2) (.int .u64 h3) := by rw [← hw15]; exact (by repeat (first | (with_reducible exact H14) | (with_reducible refine Row5.alloc ?_ _) | (with_reducible refine Row5.drew ?_)))
    have O15 : Row5 w15 w9.heap.size (.bool go) (.int .u64 o0) (.int .u64 o1) (.int .u64 o2) (.int .u64 o3) := by rw [← hw15]; exact (by repeat (first | (with_reducible exact O14) | (with_reducible refine Row5.alloc ?_ _) | (with_reducible refine Row5.drew ?_)))
    clear A14 B14 U14 D14 H14 O14
    clear BW14
    clear hw15
    go_cut [107] (fun sx wx => sx = .bool false ∧ Row5 wx w.heap.size (.bool ga) (.int .u64 a0) (.int .u64 a1) (.int .u64 a2) (.int .u64 a3) ∧ Row5 wx (w.heap.size + 1) (.bool gb) (.int .u64 b0) (.int .u64 b1) (.int .u64 b2) (.int .u64 b3) ∧ Row5 wx w3.heap.size (.bool gu) (.int .u64 u0) (.int .u64 u1) (.int .u64 u2) (.int .u64 u3) ∧ Row5 wx w5.heap.size (.bool gd) (.int .u64 d0) (.int .u64 d1) (.int .u64 d2) (.int .u64 d3) ∧ Row5 wx w7.heap.size (.bool gh) (.int .u64 h0) (.int .u64 h1) (.int .u64 h2) (.int .u64 h3) ∧ Row5 wx w9.heap.size (.bool go) (.int .u64 o0) (.int .u64 o1) (.int .u64 o2) (.int .u64 o3) ∧ Below w.heap.size w wx)
    case first =>
      cases ex <;> rcases HC.out with hc | hc | hc
      · subst hc; clear HC
        have j2 := F4.out rfl (by decide)
        clear F1 F2 F3 F4
        obtain ⟨Bc0, Bc1, Bc2, Bc3, Bc4⟩ := B15.parts
        obtain ⟨Bf0, Bf1, Bf2, Bf3, Bf4⟩ := B15.free
        obtain ⟨Oc0, Oc1, Oc2, Oc3, Oc4⟩ := O15.parts
        obtain ⟨Of0, Of1, Of2, Of3, Of4⟩ := O15.free
        go_wp2_with fail
        (with_reducible refine (K10.out _).mono ?_)
        rintro e w16 ⟨rfl, hb⟩
        have BW16 : Below w.heap.size w w16 := btr (by repeat (first | (with_reducible exact BW15) | (with_reducible refine bal ?_ _) | (with_reducible refine Below.drew ?_) | (with_reducible refine bdn ?_ _))) hb
        have A16 : Row5 w16 w.heap.size (.bool ga) (.int .u64 a0) (.int .u64 a1) (.int .u64 a2) (.int .u64 a3) := Row5.keep hb (by repeat (first | (with_reducible exact A15) | (with_reducible refine Row5.alloc ?_ _) | (with_reducible refine Row5.drew ?_)))
        have B16 : Row5 w16 (w.heap.size + 1) (.bool gb) (.int .u64 b0) (.int .u64 b1) (.int .u64 b2) (.int .u64 b3) := Row5.keep hb (by repeat (first | (with_reducible exact B15) | (with_reducible refine Row5.alloc ?_ _) | (with_reducible refine Row5.drew ?_)))
        have U16 : Row5 w16 w3.heap.size (.bool gu) (.int .u64 u0) (.int .u64 u1) (.int .u64 u2) (.int .u64 u3) := Row5.keep hb (by repeat (first | (with_reducible exact U15) | (with_reducible refine Row5.alloc ?_ _) | (with_reducible refine Row5.drew ?_)))
        have D16 : Row5 w16 w5.heap.size (.bool gd) (.int .u64 d0) (.int .u64 d1) (.int .u64 d2) (.int .u64 d3) := Row5.keep hb (by repeat (first | (with_reducible exact D15) | (with_reducible refine Row5.alloc ?_ _) | (with_reducible refine Row5.drew ?_)))
        have H16 : Row5 w16 w7.heap.size (.bool gh) (.int .u64 h0) (.int .u64 h1) (.int .u64 h2) (.int .u64 h3) := Row5.keep hb (by repeat (first | (with_reducible exact H15) | (with_reducible refine Row5.alloc ?_ _) | (with_reducible refine Row5.drew ?_)))
        have O16 : Row5 w16 w9.heap.size (.bool go) (.int .u64 o0) (.int .u64 o1) (.int .u64 o2) (.int .u64 o3) := Row5.keep hb (by repeat (first | (with_reducible exact O15) | (with_reducible refine Row5.alloc ?_ _) | (with_reducible refine Row5.drew ?_)))
        clear A15 B15 U15 D15 H15 O15
        clear BW15
        clear hb
        go_wp2
        go_meet
        exact ⟨(by first | rfl | exact congrArg Value.bool (decide_eq_false (by omega)) | exact congrArg Value.bool (by rw [decide_eq_false (by omega), decide_eq_false (by omega)]; rfl)), A16, B16, U16, D16, H16, O16, BW16⟩
      · subst hc; clear HC
        have j1 := F3.out rfl (by decide)
        have j2 := F4.out rfl (by decide)
        clear F1 F2 F3 F4
        obtain ⟨Bc0, Bc1, Bc2, Bc3, Bc4⟩ := B15.parts
        obtain ⟨Bf0, Bf1, Bf2, Bf3, Bf4⟩ := B15.free
        obtain ⟨Hc0, Hc1, Hc2, Hc3, Hc4⟩ := H15.parts
        obtain ⟨Hf0, Hf1, Hf2, Hf3, Hf4⟩ := H15.free
        go_wp2_with fail
        (with_reducible refine (K9.out _).mono ?_)
        rintro e w16 ⟨rfl, hb⟩
        have BW16 : Below w.heap.size w w16 := btr (by repeat (first | (with_reducible exact BW15) | (with_reducible refine bal ?_ _) | (with_reducible refine Below.drew ?_) | (with_reducible refine bdn ?_ _))) hb
        have A16 : Row5 w16 w.heap.size (.bool ga) (.int .u64 a0) (.int .u64 a1) (.int .u64 a2) (.int .u64 a3) := Row5.keep hb (by repeat (first | (with_reducible exact A15) | (with_reducible refine Row5.alloc ?_ _) | (with_reducible refine Row5.drew ?_)))
        have B16 : Row5 w16 (w.heap.size + 1) (.bool gb) (.int .u64 b0) (.int .u64 b1) (.int .u64 b2) (.int .u64 b3) := Row5.keep hb (by repeat (first | (with_reducible exact B15) | (with_reducible refine Row5.alloc ?_ _) | (with_reducible refine Row5.drew ?_)))
        have U16 : Row5 w16 w3.heap.size (.bool gu) (.int .u64 u0) (.int .u64 u1) (.int .u64 u2) (.int .u64 u3) := Row5.keep hb (by repeat (first | (with_reducible exact U15) | (with_reducible refine Row5.alloc ?_ _) | (with_reducible refine Row5.drew ?_)))
        have D16 : Row5 w16 w5.heap.size (.bool gd) (.int .u64 d0) (.int .u64 d1) (.int .u64 d2) (.int .u64 d3) := Row5.keep hb (by repeat (first | (with_reducible exact D15) | (with_reducible refine Row5.alloc ?_ _) | (with_reducible refine Row5.drew ?_)))
        have H16 : Row5 w16 w7.heap.size (.bool gh) (.int .u64 h0) (.int .u64 h1) (.int .u64 h2) (.int .u64 h3) := Row5.keep hb (by repeat (first | (with_reducible exact H15) | (with_reducible refine Row5.alloc ?_ _) | (with_reducible refine Row5.drew ?_)))
        have O16 : Row5 w16 w9.heap.size (.bool go) (.int .u64 o0) (.int .u64 o1) (.int .u64 o2) (.int .u64 o3) := Row5.keep hb (by repeat (first | (with_reducible exact O15) | (with_reducible refine Row5.alloc ?_ _) | (with_reducible refine Row5.drew ?_)))
        clear A15 B15 U15 D15 H15 O15
        clear BW15
        clear hb
        obtain ⟨Bc0, Bc1, Bc2, Bc3, Bc4⟩ := B16.parts
        obtain ⟨Bf0, Bf1, Bf2, Bf3, Bf4⟩ := B16.free
        obtain ⟨Oc0, Oc1, Oc2, Oc3, Oc4⟩ := O16.parts
        obtain ⟨Of0, Of1, Of2, Of3, Of4⟩ := O16.free
        go_wp2_with fail
        (with_reducible refine (K10.out _).mono ?_)
        rintro e w17 ⟨rfl, hb⟩
        have BW17 : Below w.heap.size w w17 := btr (by repeat (first | (with_reducible exact BW16) | (with_reducible refine bal ?_ _) | (with_reducible refine Below.drew ?_) | (with_reducible refine bdn ?_ _))) hb
        have A17 : Row5 w17 w.heap.size (.bool ga) (.int .u64 a0) (.int .u64 a1) (.int .u64 a2) (.int .u64 a3) := Row5.keep hb (by repeat (first | (with_reducible exact A16) | (with_reducible refine Row5.alloc ?_ _) | (with_reducible refine Row5.drew ?_)))
        have B17 : Row5 w17 (w.heap.size + 1) (.bool gb) (.int .u64 b0) (.int .u64 b1) (.int .u64 b2) (.int .u64 b3) := Row5.keep hb (by repeat (first | (with_reducible exact B16) | (with_reducible refine Row5.alloc ?_ _) | (with_reducible refine Row5.drew ?_)))
        have U17 : Row5 w17 w3.heap.size (.bool gu) (.int .u64 u0) (.int .u64 u1) (.int .u64 u2) (.int .u64 u3) := Row5.keep hb (by repeat (first | (with_reducible exact U16) | (with_reducible refine Row5.alloc ?_ _) | (with_reducible refine Row5.drew ?_)))
        have D17 : Row5 w17 w5.heap.size (.bool gd) (.int .u64 d0) (.int .u64 d1) (.int .u64 d2) (.int .u64 d3) := Row5.keep hb (by repeat (first | (with_reducible exact D16) | (with_reducible refine Row5.alloc ?_ _) | (with_reducible refine Row5.drew ?_)))
        have H17 : Row5 w17 w7.heap.size (.bool gh) (.int .u64 h0) (.int .u64 h1) (.int .u64 h2) (.int .u64 h3) := Row5.keep hb (by repeat (first | (with_reducible exact H16) | (with_reducible refine Row5.alloc ?_ _) | (with_reducible refine Row5.drew ?_)))
        have O17 : Row5 w17 w9.heap.size (.bool go) (.int .u64 o0) (.int .u64 o1) (.int .u64 o2) (.int .u64 o3) := Row5.keep hb (by repeat (first | (with_reducible exact O16) | (with_reducible refine Row5.alloc ?_ _) | (with_reducible refine Row5.drew ?_)))
        clear A16 B16 U16 D16 H16 O16
        clear BW16
        clear hb
        go_wp2
        go_meet
        exact ⟨(by first | rfl | exact congrArg Value.bool (decide_eq_false (by omega)) | exact congrArg Value.bool (by rw [decide_eq_false (by omega), decide_eq_false (by omega)]; rfl)), A17, B17, U17, D17, H17, O17, BW17⟩
      · subst hc; clear HC
        have j1 := F3.out rfl (by decide)
        clear F1 F2 F3 F4
        obtain ⟨Bc0, Bc1, Bc2, Bc3, Bc4⟩ := B15.parts
        obtain ⟨Bf0, Bf1, Bf2, Bf3, Bf4⟩ := B15.free
        obtain ⟨Hc0, Hc1, Hc2, Hc3, Hc4⟩ := H15.parts
        obtain ⟨Hf0, Hf1, Hf2, Hf3, Hf4⟩ := H15.free
        go_wp2_with fail
        (with_reducible refine (K9.out _).mono ?_)
        rintro e w16 ⟨rfl, hb⟩
        have BW16 : Below w.heap.size w w16 := btr (by repeat (first | (with_reducible exact BW15) | (with_reducible refine bal ?_ _) | (with_reducible refine Below.drew ?_) | (with_reducible refine bdn ?_ _))) hb
        have A16 : Row5 w16 w.heap.size (.bool ga) (.int .u64 a0) (.int .u64 a1) (.int .u64 a2) (.int .u64 a3) := Row5.keep hb (by repeat (first | (with_reducible exact A15) | (with_reducible refine Row5.alloc ?_ _) | (with_reducible refine Row5.drew ?_)))
        have B16 : Row5 w16 (w.heap.size + 1) (.bool gb) (.int .u64 b0) (.int .u64 b1) (.int .u64 b2) (.int .u64 b3) := Row5.keep hb (by repeat (first | (with_reducible exact B15) | (with_reducible refine Row5.alloc ?_ _) | (with_reducible refine Row5.drew ?_)))
        have U16 : Row5 w16 w3.heap.size (.bool gu) (.int .u64 u0) (.int .u64 u1) (.int .u64 u2) (.int .u64 u3) := Row5.keep hb (by repeat (first | (with_reducible exact U15) | (with_reducible refine Row5.alloc ?_ _) | (with_reducible refine Row5.drew ?_)))
        have D16 : Row5 w16 w5.heap.size (.bool gd) (.int .u64 d0) (.int .u64 d1) (.int .u64 d2) (.int .u64 d3) := Row5.keep hb (by repeat (first | (with_reducible exact D15) | (with_reducible refine Row5.alloc ?_ _) | (with_reducible refine Row5.drew ?_)))
        have H16 : Row5 w16 w7.heap.size (.bool gh) (.int .u64 h0) (.int .u64 h1) (.int .u64 h2) (.int .u64 h3) := Row5.keep hb (by repeat (first | (with_reducible exact H15) | (with_reducible refine Row5.alloc ?_ _) | (with_reducible refine Row5.drew ?_)))
        have O16 : Row5 w16 w9.heap.size (.bool go) (.int .u64 o0) (.int .u64 o1) (.int .u64 o2) (.int .u64 o3) := Row5.keep hb (by repeat (first | (with_reducible exact O15) | (with_reducible refine Row5.alloc ?_ _) | (with_reducible refine Row5.drew ?_)))
        clear A15 B15 U15 D15 H15 O15
        clear BW15
        clear hb
        go_wp2
        go_meet
        exact ⟨(by first | rfl | exact congrArg Value.bool (decide_eq_false (by omega)) | exact congrArg Value.bool (by rw [decide_eq_false (by omega), decide_eq_false (by omega)]; rfl)), A16, B16, U16, D16, H16, O16, BW16⟩
      · subst hc; clear HC
        go_wp2
        go_meet
        exact ⟨(by first | rfl | exact congrArg Value.bool (decide_eq_false (by omega)) | exact congrArg Value.bool (by rw [decide_eq_false (by omega), decide_eq_false (by omega)]; rfl)), (by repeat (first | (with_reducible exact A15) | (with_reducible refine Row5.drew ?_))), (by repeat (first | (with_reducible exact B15) | (with_reducible refine Row5.drew ?_))), (by repeat (first | (with_reducible exact U15) | (with_reducible refine Row5.drew ?_))), (by repeat (first | (with_reducible exact D15) | (with_reducible refine Row5.drew ?_))), (by repeat (first | (with_reducible exact H15) | (with_reducible refine Row5.drew ?_))), (by repeat (first | (with_reducible exact O15) | (with_reducible refine Row5.drew ?_))), BW15⟩
      · subst hc; clear HC
        go_wp2
        go_meet
        exact ⟨(by first | rfl | exact congrArg Value.bool (decide_eq_false (by omega)) | exact congrArg Value.bool (by rw [decide_eq_false (by omega), decide_eq_false (by omega)]; rfl)), (by repeat (first | (with_reducible exact A15) | (with_reducible refine Row5.drew ?_))), (by repeat (first | (with_reducible exact B15) | (with_reducible refine Row5.drew ?_))), (by repeat (first | (with_reducible exact U15) | (with_reducible refine Row5.drew ?_))), (by repeat (first | (with_reducible exact D15) | (with_reducible refine Row5.drew ?_))), (by repeat (first | (with_reducible exact H15) | (with_reducible refine Row5.drew ?_))), (by repeat (first | (with_reducible exact O15) | (with_reducible refine Row5.drew ?_))), BW15⟩
      · subst hc; clear HC
        go_wp2
        go_meet
        exact ⟨(by first | rfl | exact congrArg Value.bool (decide_eq_false (by omega)) | exact congrArg Value.bool (by rw [decide_eq_false (by omega), decide_eq_false (by omega)]; rfl)), (by repeat (first | (with_reducible exact A15) | (with_reducible refine Row5.drew ?_))), (by repeat (first | (with_reducible exact B15) | (with_reducible refine Row5.drew ?_))), (by repeat (first | (with_reducible exact U15) | (with_reducible refine Row5.drew ?_))), (by repeat (first | (with_reducible exact D15) | (with_reducible refine Row5.drew ?_))), (by repeat (first | (with_reducible exact H15) | (with_reducible refine Row5.drew ?_))), (by repeat (first | (with_reducible exact O15) | (with_reducible refine Row5.drew ?_))), BW15⟩
    case rest =>
      generalize wc = w16 at *
      clear A15
      clear B15
      clear U15
      clear D15
      clear H15
      clear O15
      clear BW15
      obtain ⟨rfl, A16, B16, U16, D16, H16, O16, BW16⟩ := hcut
      clear HC F1 F2 F3 F4
      go_wp2_with fail
      refine (told2_true _ (tabs_on HT.out (by repeat (first | (with_reducible exact BW16) | (with_reducible refine bal ?_ _) | (with_reducible refine Below.drew ?_) | (with_reducible refine bdn ?_ _))))).mono ?_
      rintro e w17 ⟨rfl, hb⟩
      have BW17 : Below w.heap.size w w17 := btr (by repeat (first | (with_reducible exact BW16) | (with_reducible refine bal ?_ _) | (with_reducible refine Below.drew ?_) | (with_reducible refine bdn ?_ _))) hb
      have A17 : Row5 w17 w.heap.size (.bool ga) (.int .u64 a0) (.int .u64 a1) (.int .u64 a2) (.int .u64 a3) := Row5.keep hb (by repeat (first | (with_reducible exact A16) | (with_reducible refine Row5.alloc ?_ _) | (with_reducible refine Row5.drew ?_)))
      have B17 : Row5 w17 (w.heap.size + 1) (.bool gb) (.int .u64 b0) (.int .u64 b1) (.int .u64 b2) (.int .u64 b3) := Row5.keep hb (by repeat (first | (with_reducible exact B16) | (with_reducible refine Row5.alloc ?_ _) | (with_reducible refine Row5.drew ?_)))
      have U17 : Row5 w17 w3.heap.size (.bool gu) (.int .u64 u0) (.int .u64 u1) (.int .u64 u2) (.int .u64 u3) := Row5.keep hb (by repeat (first | (with_reducible exact U16) | (with_reducible refine Row5.alloc ?_ _) | (with_reducible refine Row5.drew ?_)))
      have D17 : Row5 w17 w5.heap.size (.bool gd) (.int .u64 d0) (.int .u64 d1) (.int .u64 d2) (.int .u64 d3) := Row5.keep hb (by repeat (first | (with_reducible exact D16) | (with_reducible refine Row5.alloc ?_ _) | (with_reducible refine Row5.drew ?_)))
      have H17 : Row5 w17 w7.heap.size (.bool gh) (.int .u64 h0) (.int .u64 h1) (.int .u64 h2) (.int .u64 h3) := Row5.keep hb (by repeat (first | (with_reducible exact H16) | (with_reducible refine Row5.alloc ?_ _) | (with_reducible refine Row5.drew ?_)))
      have O17 : Row5 w17 w9.heap.size (.bool go) (.int .u64 o0) (.int .u64 o1) (.int .u64 o2) (.int .u64 o3) := Row5.keep hb (by repeat (first | (with_reducible exact O16) | (with_reducible refine Row5.alloc ?_ _) | (with_reducible refine Row5.drew ?_)))
      clear A16 B16 U16 D16 H16 O16
      clear BW16
      clear hb
      obtain ⟨Ac0, Ac1, Ac2, Ac3, Ac4⟩ := A17.parts
      obtain ⟨Af0, Af1, Af2, Af3, Af4⟩ := A17.free
      obtain ⟨Dc0, Dc1, Dc2, Dc3, Dc4⟩ := D17.parts
      obtain ⟨Df0, Df1, Df2, Df3, Df4⟩ := D17.free
      go_wp2_with fail
      refine (K17.out _ (tb_on HT.out.2 (by repeat (first | (with_reducible exact BW17) | (with_reducible refine bal ?_ _) | (with_reducible refine Below.drew ?_) | (with_reducible refine bdn ?_ _))))).mono ?_
      rintro e w18 ⟨rfl, hb⟩
      have BW18 : Below w.heap.size w w18 := btr (by repeat (first | (with_reducible exact BW17) | (with_reducible refine bal ?_ _) | (with_reducible refine Below.drew ?_) | (with_reducible refine bdn ?_ _))) hb
      have A18 : Row5 w18 w.heap.size (.bool ga) (.int .u64 a0) (.int .u64 a1) (.int .u64 a2) (.int .u64 a3) := Row5.keep hb (by repeat (first | (with_reducible exact A17) | (with_reducible refine Row5.alloc ?_ _) | (with_reducible refine Row5.drew ?_)))
      have B18 : Row5 w18 (w.heap.size + 1) (.bool gb) (.int .u64 b0) (.int .u64 b1) (.int .u64 b2) (.int .u64 b3) := Row5.keep hb (by repeat (first | (with_reducible exact B17) | (with_reducible refine Row5.alloc ?_ _) | (with_reducible refine Row5.drew ?_)))
      have U18 : Row5 w18 w3.heap.size (.bool gu) (.int .u64 u0) (.int .u64 u1) (.int .u64 u2) (.int .u64 u3) := Row5.keep hb (by repeat (first | (with_reducible exact U17) | (with_reducible refine Row5.alloc ?_ _) | (with_reducible refine Row5.drew ?_)))
      have D18 : Row5 w18 w5.heap.size (.bool gd) (.int .u64 d0) (.int .u64 d1) (.int .u64 d2) (.int .u64 d3) := Row5.keep hb (by repeat (first | (with_reducible exact D17) | (with_reducible refine Row5.alloc ?_ _) | (with_reducible refine Row5.drew ?_)))
      have H18 : Row5 w18 w7.heap.size (.bool gh) (.int .u64 h0) (.int .u64 h1) (.int .u64 h2) (.int .u64 h3) := Row5.keep hb (by repeat (first | (with_reducible exact H17) | (with_reducible refine Row5.alloc ?_ _) | (with_reducible refine Row5.drew ?_)))
      have O18 : Row5 w18 w9.heap.size (.bool go) (.int .u64 o0) (.int .u64 o1) (.int .u64 o2) (.int .u64 o3) := Row5.keep hb (by repeat (first | (with_reducible exact O17) | (with_reducible refine Row5.alloc ?_ _) | (with_reducible refine Row5.drew ?_)))
      clear A17 B17 U17 D17 H17 O17
      clear BW17
      clear hb
      obtain ⟨Ac0, Ac1, Ac2, Ac3, Ac4⟩ := A18.parts
      obtain ⟨Af0, Af1, Af2, Af3, Af4⟩ := A18.free
      obtain ⟨Dc0, Dc1, Dc2, Dc3, Dc4⟩ := D18.parts
      obtain ⟨Df0, Df1, Df2, Df3, Df4⟩ := D18.free
      go_wp2_with fail
      (with_reducible refine (K18.out _).mono ?_)
      rintro e w19 ⟨rfl, hb⟩
      have BW19 : Below w.heap.size w w19 := btr (by repeat (first | (with_reducible exact BW18) | (with_reducible refine bal ?_ _) | (with_reducible refine Below.drew ?_) | (with_reducible refine bdn ?_ _))) hb
      have A19 : Row5 w19 w.heap.size (.bool ga) (.int .u64 a0) (.int .u64 a1) (.int .u64 a2) (.int .u64 a3) := Row5.keep hb (by repeat (first | (with_reducible exact A18) | (with_reducible refine Row5.alloc ?_ _) | (with_reducible refine Row5.drew ?_)))
      have B19 : Row5 w19 (w.heap.size + 1) (.bool gb) (.int .u64 b0) (.int .u64 b1) (.int .u64 b2) (.int .u64 b3) := Row5.keep hb (by repeat (first | (with_reducible exact B18) | (with_reducible refine Row5.alloc ?_ _) | (with_reducible refine Row5.drew ?_)))
      have U19 : Row5 w19 w3.heap.size (.bool gu) (.int .u64 u0) (.int .u64 u1) (.int .u64 u2) (.int .u64 u3) := Row5.keep hb (by repeat (first | (with_reducible exact U18) | (with_reducible refine Row5.alloc ?_ _) | (with_reducible refine Row5.drew ?_)))
      have D19 : Row5 w19 w5.heap.size (.bool gd) (.int .u64 d0) (.int .u64 d1) (.int .u64 d2) (.int .u64 d3) := Row5.keep hb (by repeat (first | (with_reducible exact D18) | (with_reducible refine Row5.alloc ?_ _) | (with_reducible refine Row5.drew ?_)))
      have H19 : Row5 w19 w7.heap.size (.bool gh) (.int .u64 h0) (.int .u64 h1) (.int .u64 h2) (.int .u64 h3) := Row5.keep hb (by repeat (first | (with_reducible exact H18) | (with_reducible refine Row5.alloc ?_ _) | (with_reducible refine Row5.drew ?_)))
      have O19 : Row5 w19 w9.heap.size (.bool go) (.int .u64 o0) (.int .u64 o1) (.int .u64 o2) (.int .u64 o3) := Row5.keep hb (by repeat (first | (with_reducible exact O18) | (with_reducible refine Row5.alloc ?_ _) | (with_reducible refine Row5.drew ?_)))
      clear A18 B18 U18 D18 H18 O18
      clear BW18
      clear hb
      obtain ⟨Ac0, Ac1, Ac2, Ac3, Ac4⟩ := A19.parts
      obtain ⟨Af0, Af1, Af2, Af3, Af4⟩ := A19.free
      obtain ⟨Hc0, Hc1, Hc2, Hc3, Hc4⟩ := H19.parts
      obtain ⟨Hf0, Hf1, Hf2, Hf3, Hf4⟩ := H19.free
      go_wp2_with fail
      refine (K13.out _ (tb_on HT.out.2 (by repeat (first | (with_reducible exact BW19) | (with_reducible refine bal ?_ _) | (with_reducible refine Below.drew ?_) | (with_reducible refine bdn ?_ _))))).mono ?_
      rintro e w20 ⟨rfl, hb⟩
      have BW20 : Below w.heap.size w w20 := btr (by repeat (first | (with_reducible exact BW19) | (with_reducible refine bal ?_ _) | (with_reducible refine Below.drew ?_) | (with_reducible refine bdn ?_ _))) hb
      have A20 : Row5 w20 w.heap.size (.bool ga) (.int .u64 a0) (.int .u64 a1) (.int .u64 a2) (.int .u64 a3) := Row5.keep hb (by repeat (first | (with_reducible exact A19) | (with_reducible refine Row5.alloc ?_ _) | (with_reducible refine Row5.drew ?_)))
      have B20 : Row5 w20 (w.heap.size + 1) (.bool gb) (.int .u64 b0) (.int .u64 b1) (.int .u64 b2) (.int .u64 b3) := Row5.keep hb (by repeat (first | (with_reducible exact B19) | (with_reducible refine Row5.alloc ?_ _) | (with_reducible refine Row5.drew ?_)))
      have U20 : Row5 w20 w3.heap.size (.bool gu) (.int .u64 u0) (.int .u64 u1) (.int .u64 u2) (.int .u64 u3) := Row5.keep hb (by repeat (first | (with_reducible exact U19) | (with_reducible refine Row5.alloc ?_ _) | (with_reducible refine Row5.drew ?_)))
      have D20 : Row5 w20 w5.heap.size (.bool gd) (.int .u64 d0) (.int .u64 d1) (.int .u64 d2) (.int .u64 d3) := Row5.keep hb (by repeat (first | (with_reducible exact D19) | (with_reducible refine Row5.alloc ?_ _) | (with_reducible refine Row5.drew ?_)))
      have H20 : Row5 w20 w7.heap.size (.bool gh) (.int .u64 h0) (.int .u64 h1) (.int .u64 h2) (.int .u64 h3) := Row5.keep hb (by repeat (first | (with_reducible exact H19) | (with_reducible refine Row5.alloc ?_ _) | (with_reducible refine Row5.drew ?_)))
      have O20 : Row5 w20 w9.heap.size (.bool go) (.int .u64 o0) (.int .u64 o1) (.int .u64 o2) (.int .u64 o3) := Row5.keep hb (by repeat (first | (with_reducible exact O19) | (with_reducible refine Row5.alloc ?_ _) | (with_reducible refine Row5.drew ?_)))
      clear A19 B19 U19 D19 H19 O19
      clear BW19
      clear hb
      obtain ⟨Ac0, Ac1, Ac2, Ac3, Ac4⟩ := A20.parts
      obtain ⟨Af0, Af1, Af2, Af3, Af4⟩ := A20.free
      obtain ⟨Hc0, Hc1, Hc2, Hc3, Hc4⟩ := H20.parts
      obtain ⟨Hf0, Hf1, Hf2, Hf3, Hf4⟩ := H20.free
      go_wp2_with fail
      (with_reducible refine (K14.out _).mono ?_)
      rintro e w21 ⟨rfl, hb⟩
      have BW21 : Below w.heap.size w w21 := btr (by repeat (first | (with_reducible exact BW20) | (with_reducible refine bal ?_ _) | (with_reducible refine Below.drew ?_) | (with_reducible refine bdn ?_ _))) hb
      have A21 : Row5 w21 w.heap.size (.bool ga) (.int .u64 a0) (.int .u64 a1) (.int .u64 a2) (.int .u64 a3) := Row5.keep hb (by repeat (first | (with_reducible exact A20) | (with_reducible refine Row5.alloc ?_ _) | (with_reducible refine Row5.drew ?_)))
      have B21 : Row5 w21 (w.heap.size + 1) (.bool gb) (.int .u64 b0) (.int .u64 b1) (.int .u64 b2) (.int .u64 b3) := Row5.keep hb (by repeat (first | (with_reducible exact B20) | (with_reducible refine Row5.alloc ?_ _) | (with_reducible refine Row5.drew ?_)))
      have U21 : Row5 w21 w3.heap.size (.bool gu) (.int .u64 u0) (.int .u64 u1) (.int .u64 u2) (.int .u64 u3) := Row5.keep hb (by repeat (first | (with_reducible exact U20) | (with_reducible refine Row5.alloc ?_ _) | (with_reducible refine Row5.drew ?_)))
      have D21 : Row5 w21 w5.heap.size (.bool gd) (.int .u64 d0) (.int .u64 d1) (.int .u64 d2) (.int .u64 d3) := Row5.keep hb (by repeat (first | (with_reducible exact D20) | (with_reducible refine Row5.alloc ?_ _) | (with_reducible refine Row5.drew ?_)))
      have H21 : Row5 w21 w7.heap.size (.bool gh) (.int .u64 h0) (.int .u64 h1) (.int .u64 h2) (.int .u64 h3) := Row5.keep hb (by repeat (first | (with_reducible exact H20) | (with_reducible refine Row5.alloc ?_ _) | (with_reducible refine Row5.drew ?_)))
      have O21 : Row5 w21 w9.heap.size (.bool go) (.int .u64 o0) (.int .u64 o1) (.int .u64 o2) (.int .u64 o3) := Row5.keep hb (by repeat (first | (with_reducible exact O20) | (with_reducible refine Row5.alloc ?_ _) | (with_reducible refine Row5.drew ?_)))
      clear A20 B20 U20 D20 H20 O20
      clear BW20
      clear hb
      obtain ⟨Ac0, Ac1, Ac2, Ac3, Ac4⟩ := A21.parts
      obtain ⟨Af0, Af1, Af2, Af3, Af4⟩ := A21.free
      obtain ⟨Oc0, Oc1, Oc2, Oc3, Oc4⟩ := O21.parts
      obtain ⟨Of0, Of1, Of2, Of3, Of4⟩ := O21.free
      go_wp2_with fail
      refine (K15.out _ (tb_on HT.out.2 (by repeat (first | (with_reducible exact BW21) | (with_reducible refine bal ?_ _) | (with_reducible refine Below.drew ?_) | (with_reducible refine bdn ?_ _))))).mono ?_
      rintro e w22 ⟨rfl, hb⟩
      have BW22 : Below w.heap.size w w22 := btr (by repeat (first | (with_reducible exact BW21) | (with_reducible refine bal ?_ _) | (with_reducible refine Below.drew ?_) | (with_reducible refine bdn ?_ _))) hb
      have A22 : Row5 w22 w.heap.size (.bool ga) (.int .u64 a0) (.int .u64 a1) (.int .u64 a2) (.int .u64 a3) := Row5.keep hb (by repeat (first | (with_reducible exact A21) | (with_reducible refine Row5.alloc ?_ _) | (with_reducible refine Row5.drew ?_)))
      have B22 : Row5 w22 (w.heap.size + 1) (.bool gb) (.int .u64 b0) (.int .u64 b1) (.int .u64 b2) (.int .u64 b3) := Row5.keep hb (by repeat (first | (with_reducible exact B21) | (with_reducible refine Row5.alloc ?_ _) | (with_reducible refine Row5.drew ?_)))
      have U22 : Row5 w22 w3.heap.size (.bool gu) (.int .u64 u0) (.int .u64 u1) (.int .u64 u2) (.int .u64 u3) := Row5.keep hb (by repeat (first | (with_reducible exact U21) | (with_reducible refine Row5.alloc ?_ _) | (with_reducible refine Row5.drew ?_)))
      have D22 : Row5 w22 w5.heap.size (.bool gd) (.int .u64 d0) (.int .u64 d1) (.int .u64 d2) (.int .u64 d3) := Row5.keep hb (by repeat (first | (with_reducible exact D21) | (with_reducible refine Row5.alloc ?_ _) | (with_reducible refine Row5.drew ?_)))
      have H22 : Row5 w22 w7.heap.size (.bool gh) (.int .u64 h0) (.int .u64 h1) (.int .u64 h2) (.int .u64 h3) := Row5.keep hb (by repeat (first | (with_reducible exact H21) | (with_reducible refine Row5.alloc ?_ _) | (with_reducible refine Row5.drew ?_)))
      have O22 : Row5 w22 w9.heap.size (.bool go) (.int .u64 o0) (.int .u64 o1) (.int .u64 o2) (.int .u64 o3) := Row5.keep hb (by repeat (first | (with_reducible exact O21) | (with_reducible refine Row5.alloc ?_ _) | (with_reducible refine Row5.drew ?_)))
      clear A21 B21 U21 D21 H21 O21
      clear BW21
      clear hb
      obtain ⟨Ac0, Ac1, Ac2, Ac3, Ac4⟩ := A22.parts
      obtain ⟨Af0, Af1, Af2, Af3, Af4⟩ := A22.free
      obtain ⟨Oc0, Oc1, Oc2, Oc3, Oc4⟩ := O22.parts
      obtain ⟨Of0, Of1, Of2, Of3, Of4⟩ := O22.free
      go_wp2_with fail
      (with_reducible refine (K16.out _).mono ?_)
      rintro e w23 ⟨rfl, hb⟩
      have BW23 : Below w.heap.size w w23 := btr (by repeat (first | (with_reducible exact BW22) | (with_reducible refine bal ?_ _) | (with_reducible refine Below.drew ?_) | (with_reducible refine bdn ?_ _))) hb
      have A23 : Row5 w23 w.heap.size (.bool ga) (.int .u64 a0) (.int .u64 a1) (.int .u64 a2) (.int .u64 a3) := Row5.keep hb (by repeat (first | (with_reducible exact A22) | (with_reducible refine Row5.alloc ?_ _) | (with_reducible refine Row5.drew ?_)))
      have B23 : Row5 w23 (w.heap.size + 1) (.bool gb) (.int .u64 b0) (.int .u64 b1) (.int .u64 b2) (.int .u64 b3) := Row5.keep hb (by repeat (first | (with_reducible exact B22) | (with_reducible refine Row5.alloc ?_ _) | (with_reducible refine Row5.drew ?_)))
      have U23 : Row5 w23 w3.heap.size (.bool gu) (.int .u64 u0) (.int .u64 u1) (.int .u64 u2) (.int .u64 u3) := Row5.keep hb (by repeat (first | (with_reducible exact U22) | (with_reducible refine Row5.alloc ?_ _) | (with_reducible refine Row5.drew ?_)))
      have D23 : Row5 w23 w5.heap.size (.bool gd) (.int .u64 d0) (.int .u64 d1) (.int .u64 d2) (.int .u64 d3) := Row5.keep hb (by repeat (first | (with_reducible exact D22) | (with_reducible refine Row5.alloc ?_ _) | (with_reducible refine Row5.drew ?_)))
      have H23 : Row5 w23 w7.heap.size (.bool gh) (.int .u64 h0) (.int .u64 h1) (.int .u64 h2) (.int .u64 h3) := Row5.keep hb (by repeat (first | (with_reducible exact H22) | (with_reducible refine Row5.alloc ?_ _) | (with_reducible refine Row5.drew ?_)))
      have O23 : Row5 w23 w9.heap.size (.bool go) (.int .u64 o0) (.int .u64 o1) (.int .u64 o2) (.int .u64 o3) := Row5.keep hb (by repeat (first | (with_reducible exact O22) | (with_reducible refine Row5.alloc ?_ _) | (with_reducible refine Row5.drew ?_)))
      clear A22 B22 U22 D22 H22 O22
      clear BW22
      clear hb
      go_wp2
      go_ret
      exact ⟨rfl, BW23⟩

end Go.Proofs.YtbegblkfdnaloaaDoor
