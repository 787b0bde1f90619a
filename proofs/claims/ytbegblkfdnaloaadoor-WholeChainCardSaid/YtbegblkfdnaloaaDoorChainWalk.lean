/-
  entrepotlaw2.WholeChain: the walk: it answers true for all whole numbers. The tables math/bits.deBruijn64tab, internal/strconv.uint64pow10 read as their initialisers lay them.
-/
import Derived.Test.YtbegblkfdnaloaaDoorWholeJ
import Derived.BigRegion
namespace Go.Proofs.YtbegblkfdnaloaaDoor
open Go.RowKit Go.Shelf
open Go.Sort (grow)
attribute [local go_sem ↓] eql_nat neq_nat eql_int5 neq_int5

set_option maxHeartbeats 1000000 in
set_option maxRecDepth 100000 in
theorem chain_no0 (ga gb gc : Bool) (a0 a1 a2 a3 b0 b1 b2 b3 c0 c1 c2 c3 : Int)
    (m0 : ∀ W, Calls Tryd.prog 46 #[.agg #[.bool ga, .int .u64 a0, .int .u64 a1, .int .u64 a2, .int .u64 a3]] W fun e w' => e = .returned (.bool false) ∧ Below W.heap.size W w') (w : World) (hT : Tabs w) :
    Calls Tryd.prog 16 #[.agg #[.bool ga, .int .u64 a0, .int .u64 a1, .int .u64 a2, .int .u64 a3], .agg #[.bool gb, .int .u64 b0, .int .u64 b1, .int .u64 b2, .int .u64 b3], .agg #[.bool gc, .int .u64 c0, .int .u64 c1, .int .u64 c2, .int .u64 c3]] w fun e w' => e = .returned (.bool true) ∧ Below w.heap.size w w' := by
  have M0 := Lib.hid m0; clear m0
  have HT := Lib.hid hT; clear hT
  go_enter Tryd.func16, Tryd.ntmps16
  go_wp2_with fail
  (with_reducible refine (M0.out _).mono ?_)
  rintro e w1 ⟨rfl, hb⟩
  have BW1 : Below w.heap.size w w1 := btr (by repeat (first | (with_reducible exact Below.refl _ _) | (with_reducible refine bal ?_ _) | (with_reducible refine Below.drew ?_) | (with_reducible refine bdn ?_ _))) hb
  have A1 : Row5 w1 w.heap.size (.bool ga) (.int .u64 a0) (.int .u64 a1) (.int .u64 a2) (.int .u64 a3) := Row5.keep hb (by repeat (first | (with_reducible exact Row5.new _ _ _ _ _ _) | ((with_reducible refine Row5.new' _ ?_ _ _ _ _ _); (simp; done)) | (with_reducible refine Row5.alloc ?_ _) | (with_reducible refine Row5.drew ?_)))
  have B1 : Row5 w1 (w.heap.size + 1) (.bool gb) (.int .u64 b0) (.int .u64 b1) (.int .u64 b2) (.int .u64 b3) := Row5.keep hb (by repeat (first | (with_reducible exact Row5.new _ _ _ _ _ _) | ((with_reducible refine Row5.new' _ ?_ _ _ _ _ _); (simp; done)) | (with_reducible refine Row5.alloc ?_ _) | (with_reducible refine Row5.drew ?_)))
  have C1 : Row5 w1 (w.heap.size + 2) (.bool gc) (.int .u64 c0) (.int .u64 c1) (.int .u64 c2) (.int .u64 c3) := Row5.keep hb (by repeat (first | (with_reducible exact Row5.new _ _ _ _ _ _) | ((with_reducible refine Row5.new' _ ?_ _ _ _ _ _); (simp; done)) | (with_reducible refine Row5.alloc ?_ _) | (with_reducible refine Row5.drew ?_)))
  clear hb
  go_wp2_with fail
  refine (told2_true _ (tabs_on HT.out (by repeat (first | (with_reducible exact BW1) | (with_reducible refine bal ?_ _) | (with_reducible refine Below.drew ?_) | (with_reducible refine bdn ?_ _))))).mono ?_
  rintro e w2 ⟨rfl, hb⟩
  have BW2 : Below w.heap.size w w2 := btr (by repeat (first | (with_reducible exact BW1) | (with_reducible refine bal ?_ _) | (with_reducible refine Below.drew ?_) | (with_reducible refine bdn ?_ _))) hb
  have A2 : Row5 w2 w.heap.size (.bool ga) (.int .u64 a0) (.int .u64 a1) (.int .u64 a2) (.int .u64 a3) := Row5.keep hb (by repeat (first | (with_reducible exact A1) | (with_reducible refine Row5.alloc ?_ _) | (with_reducible refine Row5.drew ?_)))
  have B2 : Row5 w2 (w.heap.size + 1) (.bool gb) (.int .u64 b0) (.int .u64 b1) (.int .u64 b2) (.int .u64 b3) := Row5.keep hb (by repeat (first | (with_reducible exact B1) | (with_reducible refine Row5.alloc ?_ _) | (with_reducible refine Row5.drew ?_)))
  have C2 : Row5 w2 (w.heap.size + 2) (.bool gc) (.int .u64 c0) (.int .u64 c1) (.int .u64 c2) (.int .u64 c3) := Row5.keep hb (by repeat (first | (with_reducible exact C1) | (with_reducible refine Row5.alloc ?_ _) | (with_reducible refine Row5.drew ?_)))
  clear A1 B1 C1
  clear BW1
  clear hb
  go_wp2
  go_ret
  exact ⟨rfl, BW2⟩

set_option maxHeartbeats 1000000 in
set_option maxRecDepth 100000 in
theorem chain_no1 (ga gb gc : Bool) (a0 a1 a2 a3 b0 b1 b2 b3 c0 c1 c2 c3 : Int)
    (m0 : ∀ W, Calls Tryd.prog 46 #[.agg #[.bool ga, .int .u64 a0, .int .u64 a1, .int .u64 a2, .int .u64 a3]] W fun e w' => e = .returned (.bool true) ∧ Below W.heap.size W w')
    (m1 : ∀ W, Calls Tryd.prog 46 #[.agg #[.bool gb, .int .u64 b0, .int .u64 b1, .int .u64 b2, .int .u64 b3]] W fun e w' => e = .returned (.bool false) ∧ Below W.heap.size W w') (w : World) (hT : Tabs w) :
    Calls Tryd.prog 16 #[.agg #[.bool ga, .int .u64 a0, .int .u64 a1, .int .u64 a2, .int .u64 a3], .agg #[.bool gb, .int .u64 b0, .int .u64 b1, .int .u64 b2, .int .u64 b3], .agg #[.bool gc, .int .u64 c0, .int .u64 c1, .int .u64 c2, .int .u64 c3]] w fun e w' => e = .returned (.bool true) ∧ Below w.heap.size w w' := by
  have M0 := Lib.hid m0; clear m0
  have M1 := Lib.hid m1; clear m1
  have HT := Lib.hid hT; clear hT
  go_enter Tryd.func16, Tryd.ntmps16
  go_wp2_with fail
  (with_reducible refine (M0.out _).mono ?_)
  rintro e w1 ⟨rfl, hb⟩
  have BW1 : Below w.heap.size w w1 := btr (by repeat (first | (with_reducible exact Below.refl _ _) | (with_reducible refine bal ?_ _) | (with_reducible refine Below.drew ?_) | (with_reducible refine bdn ?_ _))) hb
  have A1 : Row5 w1 w.heap.size (.bool ga) (.int .u64 a0) (.int .u64 a1) (.int .u64 a2) (.int .u64 a3) := Row5.keep hb (by repeat (first | (with_reducible exact Row5.new _ _ _ _ _ _) | ((with_reducible refine Row5.new' _ ?_ _ _ _ _ _); (simp; done)) | (with_reducible refine Row5.alloc ?_ _) | (with_reducible refine Row5.drew ?_)))
  have B1 : Row5 w1 (w.heap.size + 1) (.bool gb) (.int .u64 b0) (.int .u64 b1) (.int .u64 b2) (.int .u64 b3) := Row5.keep hb (by repeat (first | (with_reducible exact Row5.new _ _ _ _ _ _) | ((with_reducible refine Row5.new' _ ?_ _ _ _ _ _); (simp; done)) | (with_reducible refine Row5.alloc ?_ _) | (with_reducible refine Row5.drew ?_)))
  have C1 : Row5 w1 (w.heap.size + 2) (.bool gc) (.int .u64 c0) (.int .u64 c1) (.int .u64 c2) (.int .u64 c3) := Row5.keep hb (by repeat (first | (with_reducible exact Row5.new _ _ _ _ _ _) | ((with_reducible refine Row5.new' _ ?_ _ _ _ _ _); (simp; done)) | (with_reducible refine Row5.alloc ?_ _) | (with_reducible refine Row5.drew ?_)))
  clear hb
  obtain ⟨Bc0, Bc1, Bc2, Bc3, Bc4⟩ := B1.parts
  obtain ⟨Bf0, Bf1, Bf2, Bf3, Bf4⟩ := B1.free
  go_wp2_with fail
  (with_reducible refine (M1.out _).mono ?_)
  rintro e w2 ⟨rfl, hb⟩
  have BW2 : Below w.heap.size w w2 := btr (by repeat (first | (with_reducible exact BW1) | (with_reducible refine bal ?_ _) | (with_reducible refine Below.drew ?_) | (with_reducible refine bdn ?_ _))) hb
  have A2 : Row5 w2 w.heap.size (.bool ga) (.int .u64 a0) (.int .u64 a1) (.int .u64 a2) (.int .u64 a3) := Row5.keep hb (by repeat (first | (with_reducible exact A1) | (with_reducible refine Row5.alloc ?_ _) | (with_reducible refine Row5.drew ?_)))
  have B2 : Row5 w2 (w.heap.size + 1) (.bool gb) (.int .u64 b0) (.int .u64 b1) (.int .u64 b2) (.int .u64 b3) := Row5.keep hb (by repeat (first | (with_reducible exact B1) | (with_reducible refine Row5.alloc ?_ _) | (with_reducible refine Row5.drew ?_)))
  have C2 : Row5 w2 (w.heap.size + 2) (.bool gc) (.int .u64 c0) (.int .u64 c1) (.int .u64 c2) (.int .u64 c3) := Row5.keep hb (by repeat (first | (with_reducible exact C1) | (with_reducible refine Row5.alloc ?_ _) | (with_reducible refine Row5.drew ?_)))
  clear A1 B1 C1
  clear BW1
  clear hb
  go_wp2_with fail
  refine (told2_true _ (tabs_on HT.out (by repeat (first | (with_reducible exact BW2) | (with_reducible refine bal ?_ _) | (with_reducible refine Below.drew ?_) | (with_reducible refine bdn ?_ _))))).mono ?_
  rintro e w3 ⟨rfl, hb⟩
  have BW3 : Below w.heap.size w w3 := btr (by repeat (first | (with_reducible exact BW2) | (with_reducible refine bal ?_ _) | (with_reducible refine Below.drew ?_) | (with_reducible refine bdn ?_ _))) hb
  have A3 : Row5 w3 w.heap.size (.bool ga) (.int .u64 a0) (.int .u64 a1) (.int .u64 a2) (.int .u64 a3) := Row5.keep hb (by repeat (first | (with_reducible exact A2) | (with_reducible refine Row5.alloc ?_ _) | (with_reducible refine Row5.drew ?_)))
  have B3 : Row5 w3 (w.heap.size + 1) (.bool gb) (.int .u64 b0) (.int .u64 b1) (.int .u64 b2) (.int .u64 b3) := Row5.keep hb (by repeat (first | (with_reducible exact B2) | (with_reducible refine Row5.alloc ?_ _) | (with_reducible refine Row5.drew ?_)))
  have C3 : Row5 w3 (w.heap.size + 2) (.bool gc) (.int .u64 c0) (.int .u64 c1) (.int .u64 c2) (.int .u64 c3) := Row5.keep hb (by repeat (first | (with_reducible exact C2) | (with_reducible refine Row5.alloc ?_ _) | (with_reducible refine Row5.drew ?_)))
  clear A2 B2 C2
  clear BW2
  clear hb
  go_wp2
  go_ret
  exact ⟨rfl, BW3⟩

set_option maxHeartbeats 1000000 in
set_option maxRecDepth 100000 in
theorem chain_no2 (ga gb gc : Bool) (a0 a1 a2 a3 b0 b1 b2 b3 c0 c1 c2 c3 : Int)
    (m0 : ∀ W, Calls Tryd.prog 46 #[.agg #[.bool ga, .int .u64 a0, .int .u64 a1, .int .u64 a2, .int .u64 a3]] W fun e w' => e = .returned (.bool true) ∧ Below W.heap.size W w')
    (m1 : ∀ W, Calls Tryd.prog 46 #[.agg #[.bool gb, .int .u64 b0, .int .u64 b1, .int .u64 b2, .int .u64 b3]] W fun e w' => e = .returned (.bool true) ∧ Below W.heap.size W w')
    (m2 : ∀ W, Calls Tryd.prog 46 #[.agg #[.bool gc, .int .u64 c0, .int .u64 c1, .int .u64 c2, .int .u64 c3]] W fun e w' => e = .returned (.bool false) ∧ Below W.heap.size W w') (w : World) (hT : Tabs w) :
    Calls Tryd.prog 16 #[.agg #[.bool ga, .int .u64 a0, .int .u64 a1, .int .u64 a2, .int .u64 a3], .agg #[.bool gb, .int .u64 b0, .int .u64 b1, .int .u64 b2, .int .u64 b3], .agg #[.bool gc, .int .u64 c0, .int .u64 c1, .int .u64 c2, .int .u64 c3]] w fun e w' => e = .returned (.bool true) ∧ Below w.heap.size w w' := by
  have M0 := Lib.hid m0; clear m0
  have M1 := Lib.hid m1; clear m1
  have M2 := Lib.hid m2; clear m2
  have HT := Lib.hid hT; clear hT
  go_enter Tryd.func16, Tryd.ntmps16
  go_wp2_with fail
  (with_reducible refine (M0.out _).mono ?_)
  rintro e w1 ⟨rfl, hb⟩
  have BW1 : Below w.heap.size w w1 := btr (by repeat (first | (with_reducible exact Below.refl _ _) | (with_reducible refine bal ?_ _) | (with_reducible refine Below.drew ?_) | (with_reducible refine bdn ?_ _))) hb
  have A1 : Row5 w1 w.heap.size (.bool ga) (.int .u64 a0) (.int .u64 a1) (.int .u64 a2) (.int .u64 a3) := Row5.keep hb (by repeat (first | (with_reducible exact Row5.new _ _ _ _ _ _) | ((with_reducible refine Row5.new' _ ?_ _ _ _ _ _); (simp; done)) | (with_reducible refine Row5.alloc ?_ _) | (with_reducible refine Row5.drew ?_)))
  have B1 : Row5 w1 (w.heap.size + 1) (.bool gb) (.int .u64 b0) (.int .u64 b1) (.int .u64 b2) (.int .u64 b3) := Row5.keep hb (by repeat (first | (with_reducible exact Row5.new _ _ _ _ _ _) | ((with_reducible refine Row5.new' _ ?_ _ _ _ _ _); (simp; done)) | (with_reducible refine Row5.alloc ?_ _) | (with_reducible refine Row5.drew ?_)))
  have C1 : Row5 w1 (w.heap.size + 2) (.bool gc) (.int .u64 c0) (.int .u64 c1) (.int .u64 c2) (.int .u64 c3) := Row5.keep hb (by repeat (first | (with_reducible exact Row5.new _ _ _ _ _ _) | ((with_reducible refine Row5.new' _ ?_ _ _ _ _ _); (simp; done)) | (with_reducible refine Row5.alloc ?_ _) | (with_reducible refine Row5.drew ?_)))
  clear hb
  obtain ⟨Bc0, Bc1, Bc2, Bc3, Bc4⟩ := B1.parts
  obtain ⟨Bf0, Bf1, Bf2, Bf3, Bf4⟩ := B1.free
  go_wp2_with fail
  (with_reducible refine (M1.out _).mono ?_)
  rintro e w2 ⟨rfl, hb⟩
  have BW2 : Below w.heap.size w w2 := btr (by repeat (first | (with_reducible exact BW1) | (with_reducible refine bal ?_ _) | (with_reducible refine Below.drew ?_) | (with_reducible refine bdn ?_ _))) hb
  have A2 : Row5 w2 w.heap.size (.bool ga) (.int .u64 a0) (.int .u64 a1) (.int .u64 a2) (.int .u64 a3) := Row5.keep hb (by repeat (first | (with_reducible exact A1) | (with_reducible refine Row5.alloc ?_ _) | (with_reducible refine Row5.drew ?_)))
  have B2 : Row5 w2 (w.heap.size + 1) (.bool gb) (.int .u64 b0) (.int .u64 b1) (.int .u64 b2) (.int .u64 b3) := Row5.keep hb (by repeat (first | (with_reducible exact B1) | (with_reducible refine Row5.alloc ?_ _) | (with_reducible refine Row5.drew ?_)))
  have C2 : Row5 w2 (w.heap.size + 2) (.bool gc) (.int .u64 c0) (.int .u64 c1) (.int .u64 c2) (.int .u64 c3) := Row5.keep hb (by repeat (first | (with_reducible exact C1) | (with_reducible refine Row5.alloc ?_ _) | (with_reducible refine Row5.drew ?_)))
  clear A1 B1 C1
  clear BW1
  clear hb
  obtain ⟨Cc0, Cc1, Cc2, Cc3, Cc4⟩ := C2.parts
  obtain ⟨Cf0, Cf1, Cf2, Cf3, Cf4⟩ := C2.free
  go_wp2_with fail
  (with_reducible refine (M2.out _).mono ?_)
  rintro e w3 ⟨rfl, hb⟩
  have BW3 : Below w.heap.size w w3 := btr (by repeat (first | (with_reducible exact BW2) | (with_reducible refine bal ?_ _) | (with_reducible refine Below.drew ?_) | (with_reducible refine bdn ?_ _))) hb
  have A3 : Row5 w3 w.heap.size (.bool ga) (.int .u64 a0) (.int .u64 a1) (.int .u64 a2) (.int .u64 a3) := Row5.keep hb (by repeat (first | (with_reducible exact A2) | (with_reducible refine Row5.alloc ?_ _) | (with_reducible refine Row5.drew ?_)))
  have B3 : Row5 w3 (w.heap.size + 1) (.bool gb) (.int .u64 b0) (.int .u64 b1) (.int .u64 b2) (.int .u64 b3) := Row5.keep hb (by repeat (first | (with_reducible exact B2) | (with_reducible refine Row5.alloc ?_ _) | (with_reducible refine Row5.drew ?_)))
  have C3 : Row5 w3 (w.heap.size + 2) (.bool gc) (.int .u64 c0) (.int .u64 c1) (.int .u64 c2) (.int .u64 c3) := Row5.keep hb (by repeat (first | (with_reducible exact C2) | (with_reducible refine Row5.alloc ?_ _) | (with_reducible refine Row5.drew ?_)))
  clear A2 B2 C2
  clear BW2
  clear hb
  go_wp2_with fail
  refine (told2_true _ (tabs_on HT.out (by repeat (first | (with_reducible exact BW3) | (with_reducible refine bal ?_ _) | (with_reducible refine Below.drew ?_) | (with_reducible refine bdn ?_ _))))).mono ?_
  rintro e w4 ⟨rfl, hb⟩
  have BW4 : Below w.heap.size w w4 := btr (by repeat (first | (with_reducible exact BW3) | (with_reducible refine bal ?_ _) | (with_reducible refine Below.drew ?_) | (with_reducible refine bdn ?_ _))) hb
  have A4 : Row5 w4 w.heap.size (.bool ga) (.int .u64 a0) (.int .u64 a1) (.int .u64 a2) (.int .u64 a3) := Row5.keep hb (by repeat (first | (with_reducible exact A3) | (with_reducible refine Row5.alloc ?_ _) | (with_reducible refine Row5.drew ?_)))
  have B4 : Row5 w4 (w.heap.size + 1) (.bool gb) (.int .u64 b0) (.int .u64 b1) (.int .u64 b2) (.int .u64 b3) := Row5.keep hb (by repeat (first | (with_reducible exact B3) | (with_reducible refine Row5.alloc ?_ _) | (with_reducible refine Row5.drew ?_)))
  have C4 : Row5 w4 (w.heap.size + 2) (.bool gc) (.int .u64 c0) (.int .u64 c1) (.int .u64 c2) (.int .u64 c3) := Row5.keep hb (by repeat (first | (with_reducible exact C3) | (with_reducible refine Row5.alloc ?_ _) | (with_reducible refine Row5.drew ?_)))
  clear A3 B3 C3
  clear BW3
  clear hb
  go_wp2
  go_ret
  exact ⟨rfl, BW4⟩

set_option maxHeartbeats 100000000 in
set_option maxRecDepth 100000 in
theorem chain_yes (ga gb gc : Bool) (a0 a1 a2 a3 b0 b1 b2 b3 c0 c1 c2 c3 : Int) (x y z : Int) (hx : x = -1 ∨ x = 0 ∨ x = 1) (hy : y = -1 ∨ y = 0 ∨ y = 1) (hz : z = -1 ∨ z = 0 ∨ z = 1)
    (h1 : x ≤ 0 → y ≤ 0 → z ≤ 0) (h2 : 0 ≤ x → 0 ≤ y → 0 ≤ z) (hq : eq5 ga a0 a1 a2 a3 gb b0 b1 b2 b3 = decide (x = 0))
    (m0 : ∀ W, Calls Tryd.prog 46 #[.agg #[.bool ga, .int .u64 a0, .int .u64 a1, .int .u64 a2, .int .u64 a3]] W fun e w' => e = .returned (.bool true) ∧ Below W.heap.size W w')
    (m1 : ∀ W, Calls Tryd.prog 46 #[.agg #[.bool gb, .int .u64 b0, .int .u64 b1, .int .u64 b2, .int .u64 b3]] W fun e w' => e = .returned (.bool true) ∧ Below W.heap.size W w')
    (m2 : ∀ W, Calls Tryd.prog 46 #[.agg #[.bool gc, .int .u64 c0, .int .u64 c1, .int .u64 c2, .int .u64 c3]] W fun e w' => e = .returned (.bool true) ∧ Below W.heap.size W w')
    (k1 : ∀ W, Calls Tryd.prog 61 #[.agg #[.bool ga, .int .u64 a0, .int .u64 a1, .int .u64 a2, .int .u64 a3], .agg #[.bool gb, .int .u64 b0, .int .u64 b1, .int .u64 b2, .int .u64 b3]] W fun e w' => e = .returned (.int .i64 x) ∧ Below W.heap.size W w')
    (k2 : ∀ W, Calls Tryd.prog 61 #[.agg #[.bool gb, .int .u64 b0, .int .u64 b1, .int .u64 b2, .int .u64 b3], .agg #[.bool gc, .int .u64 c0, .int .u64 c1, .int .u64 c2, .int .u64 c3]] W fun e w' => e = .returned (.int .i64 y) ∧ Below W.heap.size W w')
    (k3 : ∀ W, Calls Tryd.prog 61 #[.agg #[.bool ga, .int .u64 a0, .int .u64 a1, .int .u64 a2, .int .u64 a3], .agg #[.bool gc, .int .u64 c0, .int .u64 c1, .int .u64 c2, .int .u64 c3]] W fun e w' => e = .returned (.int .i64 z) ∧ Below W.heap.size W w')
    (k4 : ∀ W, Calls Tryd.prog 61 #[.agg #[.bool gb, .int .u64 b0, .int .u64 b1, .int .u64 b2, .int .u64 b3], .agg #[.bool ga, .int .u64 a0, .int .u64 a1, .int .u64 a2, .int .u64 a3]] W fun e w' => e = .returned (.int .i64 (-x)) ∧ Below W.heap.size W w')
    (k5 : ∀ W, Calls Tryd.prog 61 #[.agg #[.bool (!ga && !eq4 a0 a1 a2 a3 0 0 0 0), .int .u64 a0, .int .u64 a1, .int .u64 a2, .int .u64 a3], .agg #[.bool (!gb && !eq4 b0 b1 b2 b3 0 0 0 0), .int .u64 b0, .int .u64 b1, .int .u64 b2, .int .u64 b3]] W fun e w' => e = .returned (.int .i64 (-x)) ∧ Below W.heap.size W w') (w : World) (hT : Tabs w) :
    Calls Tryd.prog 16 #[.agg #[.bool ga, .int .u64 a0, .int .u64 a1, .int .u64 a2, .int .u64 a3], .agg #[.bool gb, .int .u64 b0, .int .u64 b1, .int .u64 b2, .int .u64 b3], .agg #[.bool gc, .int .u64 c0, .int .u64 c1, .int .u64 c2, .int .u64 c3]] w fun e w' => e = .returned (.bool true) ∧ Below w.heap.size w w' := by
  have M0 := Lib.hid m0; clear m0
  have M1 := Lib.hid m1; clear m1
  have M2 := Lib.hid m2; clear m2
  have K1 := Lib.hid k1; clear k1
  have K2 := Lib.hid k2; clear k2
  have K3 := Lib.hid k3; clear k3
  have K4 := Lib.hid k4; clear k4
  have K5 := Lib.hid k5; clear k5
  have HT := Lib.hid hT; clear hT
  have x0 : -1 ≤ x := by omega
  have x1 : x ≤ 1 := by omega
  have HX := Lib.hid hx; have HY := Lib.hid hy; have HZ := Lib.hid hz; have H1 := Lib.hid h1; have H2 := Lib.hid h2; have HQ := Lib.hid hq; clear hx hy hz h1 h2 hq
  go_enter Tryd.func16, Tryd.ntmps16
  go_wp2_with fail
  (with_reducible refine (M0.out _).mono ?_)
  rintro e w1 ⟨rfl, hb⟩
  have BW1 : Below w.heap.size w w1 := btr (by repeat (first | (with_reducible exact Below.refl _ _) | (with_reducible refine bal ?_ _) | (with_reducible refine Below.drew ?_) | (with_reducible refine bdn ?_ _))) hb
  have A1 : Row5 w1 w.heap.size (.bool ga) (.int .u64 a0) (.int .u64 a1) (.int .u64 a2) (.int .u64 a3) := Row5.keep hb (by repeat (first | (with_reducible exact Row5.new _ _ _ _ _ _) | ((with_reducible refine Row5.new' _ ?_ _ _ _ _ _); (simp; done)) | (with_reducible refine Row5.alloc ?_ _) | (with_reducible refine Row5.drew ?_)))
  have B1 : Row5 w1 (w.heap.size + 1) (.bool gb) (.int .u64 b0) (.int .u64 b1) (.int .u64 b2) (.int .u64 b3) := Row5.keep hb (by repeat (first | (with_reducible exact Row5.new _ _ _ _ _ _) | ((with_reducible refine Row5.new' _ ?_ _ _ _ _ _); (simp; done)) | (with_reducible refine Row5.alloc ?_ _) | (with_reducible refine Row5.drew ?_)))
  have C1 : Row5 w1 (w.heap.size + 2) (.bool gc) (.int .u64 c0) (.int .u64 c1) (.int .u64 c2) (.int .u64 c3) := Row5.keep hb (by repeat (first | (with_reducible exact Row5.new _ _ _ _ _ _) | ((with_reducible refine Row5.new' _ ?_ _ _ _ _ _); (simp; done)) | (with_reducible refine Row5.alloc ?_ _) | (with_reducible refine Row5.drew ?_)))
  clear hb
  obtain ⟨Bc0, Bc1, Bc2, Bc3, Bc4⟩ := B1.parts
  obtain ⟨Bf0, Bf1, Bf2, Bf3, Bf4⟩ := B1.free
  go_wp2_with fail
  (with_reducible refine (M1.out _).mono ?_)
  rintro e w2 ⟨rfl, hb⟩
  have BW2 : Below w.heap.size w w2 := btr (by repeat (first | (with_reducible exact BW1) | (with_reducible refine bal ?_ _) | (with_reducible refine Below.drew ?_) | (with_reducible refine bdn ?_ _))) hb
  have A2 : Row5 w2 w.heap.size (.bool ga) (.int .u64 a0) (.int .u64 a1) (.int .u64 a2) (.int .u64 a3) := Row5.keep hb (by repeat (first | (with_reducible exact A1) | (with_reducible refine Row5.alloc ?_ _) | (with_reducible refine Row5.drew ?_)))
  have B2 : Row5 w2 (w.heap.size + 1) (.bool gb) (.int .u64 b0) (.int .u64 b1) (.int .u64 b2) (.int .u64 b3) := Row5.keep hb (by repeat (first | (with_reducible exact B1) | (with_reducible refine Row5.alloc ?_ _) | (with_reducible refine Row5.drew ?_)))
  have C2 : Row5 w2 (w.heap.size + 2) (.bool gc) (.int .u64 c0) (.int .u64 c1) (.int .u64 c2) (.int .u64 c3) := Row5.keep hb (by repeat (first | (with_reducible exact C1) | (with_reducible refine Row5.alloc ?_ _) | (with_reducible refine Row5.drew ?_)))
  clear A1 B1 C1
  clear BW1
  clear hb
  obtain ⟨Cc0, Cc1, Cc2, Cc3, Cc4⟩ := C2.parts
  obtain ⟨Cf0, Cf1, Cf2, Cf3, Cf4⟩ := C2.free
  go_wp2_with fail
  (with_reducible refine (M2.out _).mono ?_)
  rintro e w3 ⟨rfl, hb⟩
  have BW3 : Below w.heap.size w w3 := btr (by repeat (first | (with_reducible exact BW2) | (with_reducible refine bal ?_ _) | (with_reducible refine Below.drew ?_) | (with_reducible refine bdn ?_ _))) hb
  have A3 : Row5 w3 w.heap.size (.bool ga) (.int .u64 a0) (.int .u64 a1) (.int .u64 a2) (.int .u64 a3) := Row5.keep hb (by repeat (first | (with_reducible exact A2) | (with_reducible refine Row5.alloc ?_ _) | (with_reducible refine Row5.drew ?_)))
  have B3 : Row5 w3 (w.heap.size + 1) (.bool gb) (.int .u64 b0) (.int .u64 b1) (.int .u64 b2) (.int .u64 b3) := Row5.keep hb (by repeat (first | (with_reducible exact B2) | (with_reducible refine Row5.alloc ?_ _) | (with_reducible refine Row5.drew ?_)))
  have C3 : Row5 w3 (w.heap.size + 2) (.bool gc) (.int .u64 c0) (.int .u64 c1) (.int .u64 c2) (.int .u64 c3) := Row5.keep hb (by repeat (first | (with_reducible exact C2) | (with_reducible refine Row5.alloc ?_ _) | (with_reducible refine Row5.drew ?_)))
  clear A2 B2 C2
  clear BW2
  clear hb
  obtain ⟨Cc0, Cc1, Cc2, Cc3, Cc4⟩ := C3.parts
  obtain ⟨Cf0, Cf1, Cf2, Cf3, Cf4⟩ := C3.free
  go_upto_region 3 with (fail)
  go_name_world w4 hw4
  have BW4 : Below w.heap.size w w4 := by rw [← hw4]; repeat (first | (with_reducible exact BW3) | (with_reducible refine bal ?_ _) | (with_reducible refine Below.drew ?_) | (with_reducible refine bdn ?_ _))
  have A4 : Row5 w4 w.heap.size (.bool ga) (.int .u64 a0) (.int .u64 a1) (.int .u64 a2) (.int .u64 a3) := by rw [← hw4]; exact (by repeat (first | (with_reducible exact A3) | (with_reducible refine Row5.alloc ?_ _) | (with_reducible refine Row5.drew ?_)))
  have B4 : Row5 w4 (w.heap.size + 1) (.bool gb) (.int .u64 b0) (.int .u64 b1) (.int .u64 b2) (.int .u64 b3) := by rw [← hw4]; exact (by repeat (first | (with_reducible exact B3) | (with_reducible refine Row5.alloc ?_ _) | (with_reducible refine Row5.drew ?_)))
  have C4 : Row5 w4 (w.heap.size + 2) (.bool gc) (.int .u64 c0) (.int .u64 c1) (.int .u64 c2) (.int .u64 c3) := by rw [← hw4]; exact (by repeat (first | (with_reducible exact C3) | (with_reducible refine Row5.alloc ?_ _) | (with_reducible refine Row5.drew ?_)))
  clear A3 B3 C3
  clear BW3
  clear hw4
  obtain ⟨qA0, qA1, qA2, qA3, qA4⟩ := A4.parts
  have gA0 := cell_regrown qA0
  have gA1 := cell_regrown qA1
  have gA2 := cell_regrown qA2
  have gA3 := cell_regrown qA3
  have gA4 := cell_regrown qA4
  clear qA0 qA1 qA2 qA3 qA4
  obtain ⟨qB0, qB1, qB2, qB3, qB4⟩ := B4.parts
  have gB0 := cell_regrown qB0
  have gB1 := cell_regrown qB1
  have gB2 := cell_regrown qB2
  have gB3 := cell_regrown qB3
  have gB4 := cell_regrown qB4
  clear qB0 qB1 qB2 qB3 qB4
  obtain ⟨qC0, qC1, qC2, qC3, qC4⟩ := C4.parts
  have gC0 := cell_regrown qC0
  have gC1 := cell_regrown qC1
  have gC2 := cell_regrown qC2
  have gC3 := cell_regrown qC3
  have gC4 := cell_regrown qC4
  clear qC0 qC1 qC2 qC3 qC4
  have cq0 := fun (d : Nat) (os : Array Obj) => Calls.regrown_of (w := w4) (d := d) (os := os) (K1.out _)
  have cq1 := fun (d : Nat) (os : Array Obj) => Calls.regrown_of (w := w4) (d := d) (os := os) (K2.out _)
  have cq2 := fun (d : Nat) (os : Array Obj) => Calls.regrown_of (w := w4) (d := d) (os := os) (K3.out _)
  refine wp_region_quiet_below (by kernel_rfl) (by kernel_rfl) ?_
  repeat (first | go_big_quiet_step ((first | (with_reducible exact cq0 _ _) | (with_reducible exact cq1 _ _) | (with_reducible exact cq2 _ _))) | quiet_step (first | (with_reducible exact cq0 _ _) | (with_reducible exact cq1 _ _) | (with_reducible exact cq2 _ _)))
  refine wpQuiet_nil ?_
  intro _ hw'
  obtain ⟨⟨dq, osq⟩, hw''⟩ := hw'
  subst hw''
  clear gA0 gA1 gA2 gA3 gA4 gB0 gB1 gB2 gB3 gB4 gC0 gC1 gC2 gC3 gC4 cq0 cq1 cq2
  have hb := below_regrown w4 dq osq
  generalize grow (redrawn w4 dq) osq = w5 at *
  have BW5 : Below w.heap.size w w5 := btr BW4 hb
  have A5 : Row5 w5 w.heap.size (.bool ga) (.int .u64 a0) (.int .u64 a1) (.int .u64 a2) (.int .u64 a3) := Row5.keep hb A4
  have B5 : Row5 w5 (w.heap.size + 1) (.bool gb) (.int .u64 b0) (.int .u64 b1) (.int .u64 b2) (.int .u64 b3) := Row5.keep hb B4
  have C5 : Row5 w5 (w.heap.size + 2) (.bool gc) (.int .u64 c0) (.int .u64 c1) (.int .u64 c2) (.int .u64 c3) := Row5.keep hb C4
  clear A4 B4 C4 BW4 hb
  go_upto_region 4 with (fail)
  go_cut [72] (fun s72 wx => s72 = .bool false ∧ Row5 wx w.heap.size (.bool ga) (.int .u64 a0) (.int .u64 a1) (.int .u64 a2) (.int .u64 a3) ∧ Row5 wx (w.heap.size + 1) (.bool gb) (.int .u64 b0) (.int .u64 b1) (.int .u64 b2) (.int .u64 b3) ∧ Row5 wx (w.heap.size + 2) (.bool gc) (.int .u64 c0) (.int .u64 c1) (.int .u64 c2) (.int .u64 c3) ∧ Below w.heap.size w wx)
  case first =>
    obtain ⟨Ac0, Ac1, Ac2, Ac3, Ac4⟩ := A5.parts
    obtain ⟨Af0, Af1, Af2, Af3, Af4⟩ := A5.free
    obtain ⟨Bc0, Bc1, Bc2, Bc3, Bc4⟩ := B5.parts
    obtain ⟨Bf0, Bf1, Bf2, Bf3, Bf4⟩ := B5.free
    have hq := HQ.out; clear HQ
    rcases HX.out with hx | hx | hx <;> rcases HY.out with hy | hy | hy <;> rcases HZ.out with hz | hz | hz
    all_goals try (exfalso; have j1 := H1.out; have j2 := H2.out; omega)
    all_goals
      subst hx; subst hy; subst hz; clear HX HY HZ H1 H2
      first | (have hq2 := hq.trans (show decide ((0 : Int) = 0) = true from rfl); clear hq) | (have hq2 := hq.trans (show decide ((1 : Int) = 0) = false from rfl); clear hq) | (have hq2 := hq.trans (show decide ((-1 : Int) = 0) = false from rfl); clear hq)
      go_wp2_with fail
      (with_reducible refine (K4.out _).mono ?_)
      rintro e w6 ⟨rfl, hb⟩
      have BW6 : Below w.heap.size w w6 := btr (by repeat (first | (with_reducible exact BW5) | (with_reducible refine bal ?_ _) | (with_reducible refine Below.drew ?_) | (with_reducible refine bdn ?_ _))) hb
      have A6 : Row5 w6 w.heap.size (.bool ga) (.int .u64 a0) (.int .u64 a1) (.int .u64 a2) (.int .u64 a3) := Row5.keep hb (by repeat (first | (with_reducible exact A5) | (with_reducible refine Row5.alloc ?_ _) | (with_reducible refine Row5.drew ?_)))
      have B6 : Row5 w6 (w.heap.size + 1) (.bool gb) (.int .u64 b0) (.int .u64 b1) (.int .u64 b2) (.int .u64 b3) := Row5.keep hb (by repeat (first | (with_reducible exact B5) | (with_reducible refine Row5.alloc ?_ _) | (with_reducible refine Row5.drew ?_)))
      have C6 : Row5 w6 (w.heap.size + 2) (.bool gc) (.int .u64 c0) (.int .u64 c1) (.int .u64 c2) (.int .u64 c3) := Row5.keep hb (by repeat (first | (with_reducible exact C5) | (with_reducible refine Row5.alloc ?_ _) | (with_reducible refine Row5.drew ?_)))
      clear A5 B5 C5
      clear BW5
      clear hb
      go_wp2
      go_meet
      exact ⟨rfl, A6, B6, C6, BW6⟩
  case rest =>
    generalize wc = w6 at *
    clear A5
    clear B5
    clear C5
    clear BW5
    obtain ⟨rfl, A6, B6, C6, BW6⟩ := hcut
    go_upto_region 6 with (fail)
    go_name_world w7 hw7
    have BW7 : Below w.heap.size w w7 := by rw [← hw7]; repeat (first | (with_reducible exact BW6) | (with_reducible refine bal ?_ _) | (with_reducible refine Below.drew ?_) | (with_reducible refine bdn ?_ _))
    have A7 : Row5 w7 w.heap.size (.bool ga) (.int .u64 a0) (.int .u64 a1) (.int .u64 a2) (.int .u64 a3) := by rw [← hw7]; exact (by repeat (first | (with_reducible exact A6) | (with_reducible refine Row5.alloc ?_ _) | (with_reducible refine Row5.drew ?_)))
    have B7 : Row5 w7 (w.heap.size + 1) (.bool gb) (.int .u64 b0) (.int .u64 b1) (.int .u64 b2) (.int .u64 b3) := by rw [← hw7]; exact (by repeat (first | (with_reducible exact B6) | (with_reducible refine Row5.alloc ?_ _) | (with_reducible refine Row5.drew ?_)))
    have C7 : Row5 w7 (w.heap.size + 2) (.bool gc) (.int .u64 c0) (.int .u64 c1) (.int .u64 c2) (.int .u64 c3) := by rw [← hw7]; exact (by repeat (first | (with_reducible exact C6) | (with_reducible refine Row5.alloc ?_ _) | (with_reducible refine Row5.drew ?_)))
    clear A6 B6 C6
    clear BW6
    clear hw7
    have lt_A := A7.lt
    have lt_B := B7.lt
    have lt_C := C7.lt
    go_cut [10, 11] (fun s10 s11 wx => ∃ p q : Nat, s10 = .pointer (some ⟨p, 0, none⟩) ∧ s11 = .pointer (some ⟨q, 0, none⟩) ∧ p ≠ q ∧ Row5 wx p (.bool ga) (.int .u64 a0) (.int .u64 a1) (.int .u64 a2) (.int .u64 a3) ∧ Row5 wx q (.bool gb) (.int .u64 b0) (.int .u64 b1) (.int .u64 b2) (.int .u64 b3) ∧ w7.heap.size ≤ p ∧ w7.heap.size ≤ q ∧ Below w7.heap.size w7 wx)
    case first =>
      obtain ⟨Ac0, Ac1, Ac2, Ac3, Ac4⟩ := A7.parts
      obtain ⟨Af0, Af1, Af2, Af3, Af4⟩ := A7.free
      obtain ⟨Bc0, Bc1, Bc2, Bc3, Bc4⟩ := B7.parts
      obtain ⟨Bf0, Bf1, Bf2, Bf3, Bf4⟩ := B7.free
      go_region
      all_goals
        go_wp2
        go_meet
        refine ⟨_, _, rfl, rfl, by omega, ?_, ?_, by omega, by omega, ?_⟩
        · repeat (first | (with_reducible exact Row5.new _ _ _ _ _ _) | ((with_reducible refine Row5.new' _ ?_ _ _ _ _ _); (simp; done)) | (with_reducible refine Row5.alloc ?_ _) | (with_reducible refine Row5.drew ?_))
        · repeat (first | (with_reducible exact Row5.new _ _ _ _ _ _) | ((with_reducible refine Row5.new' _ ?_ _ _ _ _ _); (simp; done)) | (with_reducible refine Row5.alloc ?_ _) | (with_reducible refine Row5.drew ?_))
        · repeat (first | (with_reducible exact Below.refl _ _) | (with_reducible refine bal ?_ _) | (with_reducible refine Below.drew ?_) | (with_reducible refine bdn ?_ _))
    case rest =>
      generalize wc = w8 at *
      obtain ⟨p, q, rfl, rfl, hpq, P8, Q8, lp, lq, hb⟩ := hcut
      have BW8 := btr BW7 hb
      have A8 : Row5 w8 w.heap.size (.bool ga) (.int .u64 a0) (.int .u64 a1) (.int .u64 a2) (.int .u64 a3) := Row5.keep hb A7
      have B8 : Row5 w8 (w.heap.size + 1) (.bool gb) (.int .u64 b0) (.int .u64 b1) (.int .u64 b2) (.int .u64 b3) := Row5.keep hb B7
      have C8 : Row5 w8 (w.heap.size + 2) (.bool gc) (.int .u64 c0) (.int .u64 c1) (.int .u64 c2) (.int .u64 c3) := Row5.keep hb C7
      clear A7 B7 C7 BW7 hb
      go_upto_region 7 with (fail)
      go_name_world w9 hw9
      have BW9 : Below w.heap.size w w9 := by rw [← hw9]; repeat (first | (with_reducible exact BW8) | (with_reducible refine bal ?_ _) | (with_reducible refine Below.drew ?_) | (with_reducible refine bdn ?_ _))
      have A9 : Row5 w9 w.heap.size (.bool ga) (.int .u64 a0) (.int .u64 a1) (.int .u64 a2) (.int .u64 a3) := by rw [← hw9]; exact (by repeat (first | (with_reducible exact A8) | (with_reducible refine Row5.alloc ?_ _) | (with_reducible refine Row5.drew ?_)))
      have B9 : Row5 w9 (w.heap.size + 1) (.bool gb) (.int .u64 b0) (.int .u64 b1) (.int .u64 b2) (.int .u64 b3) := by rw [← hw9]; exact (by repeat (first | (with_reducible exact B8) | (with_reducible refine Row5.alloc ?_ _) | (with_reducible refine Row5.drew ?_)))
      have C9 : Row5 w9 (w.heap.size + 2) (.bool gc) (.int .u64 c0) (.int .u64 c1) (.int .u64 c2) (.int .u64 c3) := by rw [← hw9]; exact (by repeat (first | (with_reducible exact C8) | (with_reducible refine Row5.alloc ?_ _) | (with_reducible refine Row5.drew ?_)))
      have P9 : Row5 w9 p (.bool ga) (.int .u64 a0) (.int .u64 a1) (.int .u64 a2) (.int .u64 a3) := by rw [← hw9]; exact (by repeat (first | (with_reducible exact P8) | (with_reducible refine Row5.alloc ?_ _) | (with_reducible refine Row5.drew ?_)))
      have Q9 : Row5 w9 q (.bool gb) (.int .u64 b0) (.int .u64 b1) (.int .u64 b2) (.int .u64 b3) := by rw [← hw9]; exact (by repeat (first | (with_reducible exact Q8) | (with_reducible refine Row5.alloc ?_ _) | (with_reducible refine Row5.drew ?_)))
      clear A8 B8 C8 P8 Q8
      clear BW8
      clear hw9
      have mt_A := A9.lt
      have mt_B := B9.lt
      have mt_C := C9.lt
      have mt_P := P9.lt
      have mt_Q := Q9.lt
      go_cut [] (fun wx => Row5 wx p (.bool (!ga && !eq4 a0 a1 a2 a3 0 0 0 0)) (.int .u64 a0) (.int .u64 a1) (.int .u64 a2) (.int .u64 a3) ∧ Row5 wx q (.bool (!gb && !eq4 b0 b1 b2 b3 0 0 0 0)) (.int .u64 b0) (.int .u64 b1) (.int .u64 b2) (.int .u64 b3) ∧ Below w.heap.size w wx)
      case first =>
        clear K1 K2 K3 K4 K5 M0 M1 M2
        obtain ⟨Ac0, Ac1, Ac2, Ac3, Ac4⟩ := A9.parts
        obtain ⟨Af0, Af1, Af2, Af3, Af4⟩ := A9.free
        obtain ⟨Bc0, Bc1, Bc2, Bc3, Bc4⟩ := B9.parts
        obtain ⟨Bf0, Bf1, Bf2, Bf3, Bf4⟩ := B9.free
        obtain ⟨Pc0, Pc1, Pc2, Pc3, Pc4⟩ := P9.parts
        obtain ⟨Pf0, Pf1, Pf2, Pf3, Pf4⟩ := P9.free
        obtain ⟨Qc0, Qc1, Qc2, Qc3, Qc4⟩ := Q9.parts
        obtain ⟨Qf0, Qf1, Qf2, Qf3, Qf4⟩ := Q9.free
        cases ga <;> cases gb
        · go_region
          all_goals
            go_wp2
            go_meet
            refine ⟨?_, ?_, ?_⟩
            · (repeat (first | (with_reducible exact P9) | (with_reducible refine Row5.drew ?_) | ((with_reducible refine Row5.set ?_ ?_ _); rotate_left; (focus (omega))) | (refine Row5.sign (g := .bool false) ?_ _)))
            · (repeat (first | (with_reducible exact Q9) | (with_reducible refine Row5.drew ?_) | ((with_reducible refine Row5.set ?_ ?_ _); rotate_left; (focus (omega))) | (refine Row5.sign (g := .bool false) ?_ _)))
            · repeat (first | (with_reducible exact BW9) | (with_reducible refine Below.drew ?_) | ((with_reducible refine bsc ?_ ?_ _); rotate_left; (focus (first | (show w.heap.size ≤ p; omega) | (show w.heap.size ≤ q; omega)))))
        · go_region
          all_goals
            go_wp2
            go_meet
            refine ⟨?_, ?_, ?_⟩
            · (repeat (first | (with_reducible exact P9) | (with_reducible refine Row5.drew ?_) | ((with_reducible refine Row5.set ?_ ?_ _); rotate_left; (focus (omega))) | (refine Row5.sign (g := .bool false) ?_ _)))
            · (repeat (first | (with_reducible exact Q9) | (with_reducible refine Row5.drew ?_) | ((with_reducible refine Row5.set ?_ ?_ _); rotate_left; (focus (omega))) | (refine Row5.sign (g := .bool true) ?_ _)))
            · repeat (first | (with_reducible exact BW9) | (with_reducible refine Below.drew ?_) | ((with_reducible refine bsc ?_ ?_ _); rotate_left; (focus (first | (show w.heap.size ≤ p; omega) | (show w.heap.size ≤ q; omega)))))
        · go_region
          all_goals
            go_wp2
            go_meet
            refine ⟨?_, ?_, ?_⟩
            · (repeat (first | (with_reducible exact P9) | (with_reducible refine Row5.drew ?_) | ((with_reducible refine Row5.set ?_ ?_ _); rotate_left; (focus (omega))) | (refine Row5.sign (g := .bool true) ?_ _)))
            · (repeat (first | (with_reducible exact Q9) | (with_reducible refine Row5.drew ?_) | ((with_reducible refine Row5.set ?_ ?_ _); rotate_left; (focus (omega))) | (refine Row5.sign (g := .bool false) ?_ _)))
            · repeat (first | (with_reducible exact BW9) | (with_reducible refine Below.drew ?_) | ((with_reducible refine bsc ?_ ?_ _); rotate_left; (focus (first | (show w.heap.size ≤ p; omega) | (show w.heap.size ≤ q; omega)))))
        · go_region
          all_goals
            go_wp2
            go_meet
            refine ⟨?_, ?_, ?_⟩
            · (repeat (first | (with_reducible exact P9) | (with_reducible refine Row5.drew ?_) | ((with_reducible refine Row5.set ?_ ?_ _); rotate_left; (focus (omega))) | (refine Row5.sign (g := .bool true) ?_ _)))
            · (repeat (first | (with_reducible exact Q9) | (with_reducible refine Row5.drew ?_) | ((with_reducible refine Row5.set ?_ ?_ _); rotate_left; (focus (omega))) | (refine Row5.sign (g := .bool true) ?_ _)))
            · repeat (first | (with_reducible exact BW9) | (with_reducible refine Below.drew ?_) | ((with_reducible refine bsc ?_ ?_ _); rotate_left; (focus (first | (show w.heap.size ≤ p; omega) | (show w.heap.size ≤ q; omega)))))
      case rest =>
        generalize wc = w10 at *
        clear A9
        clear B9
        clear C9
        clear P9
        clear Q9
        clear BW9
        obtain ⟨P10, Q10, BW10⟩ := hcut
        go_wp2_with fail
        refine (told2_true _ (tabs_on HT.out (by repeat (first | (with_reducible exact BW10) | (with_reducible refine bal ?_ _) | (with_reducible refine Below.drew ?_) | (with_reducible refine bdn ?_ _))))).mono ?_
        rintro e w11 ⟨rfl, hb⟩
        have BW11 : Below w.heap.size w w11 := btr (by repeat (first | (with_reducible exact BW10) | (with_reducible refine bal ?_ _) | (with_reducible refine Below.drew ?_) | (with_reducible refine bdn ?_ _))) hb
        have P11 : Row5 w11 p (.bool (!ga && !eq4 a0 a1 a2 a3 0 0 0 0)) (.int .u64 a0) (.int .u64 a1) (.int .u64 a2) (.int .u64 a3) := Row5.keep hb (by repeat (first | (with_reducible exact P10) | (with_reducible refine Row5.alloc ?_ _) | (with_reducible refine Row5.drew ?_)))
        have Q11 : Row5 w11 q (.bool (!gb && !eq4 b0 b1 b2 b3 0 0 0 0)) (.int .u64 b0) (.int .u64 b1) (.int .u64 b2) (.int .u64 b3) := Row5.keep hb (by repeat (first | (with_reducible exact Q10) | (with_reducible refine Row5.alloc ?_ _) | (with_reducible refine Row5.drew ?_)))
        clear P10 Q10
        clear BW10
        clear hb
        obtain ⟨Pc0, Pc1, Pc2, Pc3, Pc4⟩ := P11.parts
        obtain ⟨Pf0, Pf1, Pf2, Pf3, Pf4⟩ := P11.free
        obtain ⟨Qc0, Qc1, Qc2, Qc3, Qc4⟩ := Q11.parts
        obtain ⟨Qf0, Qf1, Qf2, Qf3, Qf4⟩ := Q11.free
        go_wp2_with fail
        refine (K5.out _).mono ?_
        rintro e w12 ⟨rfl, hb⟩
        have BW12 : Below w.heap.size w w12 := btr (by repeat (first | (with_reducible exact BW11) | (with_reducible refine bal ?_ _) | (with_reducible refine Below.drew ?_) | (with_reducible refine bdn ?_ _))) hb
        have P12 : Row5 w12 p (.bool (!ga && !eq4 a0 a1 a2 a3 0 0 0 0)) (.int .u64 a0) (.int .u64 a1) (.int .u64 a2) (.int .u64 a3) := Row5.keep hb (by repeat (first | (with_reducible exact P11) | (with_reducible refine Row5.alloc ?_ _) | (with_reducible refine Row5.drew ?_)))
        have Q12 : Row5 w12 q (.bool (!gb && !eq4 b0 b1 b2 b3 0 0 0 0)) (.int .u64 b0) (.int .u64 b1) (.int .u64 b2) (.int .u64 b3) := Row5.keep hb (by repeat (first | (with_reducible exact Q11) | (with_reducible refine Row5.alloc ?_ _) | (with_reducible refine Row5.drew ?_)))
        clear P11 Q11
        clear BW11
        clear hb
        go_wp2
        go_ret
        exact ⟨rfl, BW12⟩

end Go.Proofs.YtbegblkfdnaloaaDoor
