/-
  value.wrong: the contract; what a value's own parts may be.
-/
import Derived.Test.YtfaaagmjmljhiaaGreatDoorValBare
import Derived.Test.YtfaaagmjmljhiaaGreatDoorValNames
import Derived.Test.YtfaaagmjmljhiaaGreatDoorValEqO
namespace Go.Proofs.YtfaaagmjmljhiaaGreatDoor
open Go.RowKit Go.Shelf
open Go.Sort (grow)
attribute [local go_sem ↓] neqO

set_option maxHeartbeats 1000000 in
theorem wrong_diff (kd : Int) (g : Bool) (x0 x1 x2 x3 b : Int) (s : ByteArray) (la : Option Addr) (n lc : Nat) (ka : Option Addr) (m kc : Nat) (h : Bool) (y0 y1 y2 y3 b' : Int) (s' : ByteArray) (la' : Option Addr) (n' lc' : Nat) (ka' : Option Addr) (m' kc' : Nat) (w : World)
    (m1 : ∀ W, Calls Tryz.prog 47 #[V10 kd g x0 x1 x2 x3 b s la n lc ka m kc] W fun e w' => e = .returned (V10 kd h y0 y1 y2 y3 b' s' la' n' lc' ka' m' kc') ∧ Below W.heap.size W w')
    (hD : eqO kd g x0 x1 x2 x3 b s (m : Int) (n : Int) kd h y0 y1 y2 y3 b' s' (m' : Int) (n' : Int) = false)
    :
    Calls Tryz.prog 27 #[V10 kd g x0 x1 x2 x3 b s la n lc ka m kc] w fun e w' => e = .returned (.bool true) ∧ Below w.heap.size w w' := by
  have M1 := Lib.hid m1; clear m1
  go_enter Tryz.func27, Tryz.ntmps27
  go_upto_region 1 with (fail)
  go_name_world w1 hw1
  have BW1 : Below w.heap.size w w1 := by rw [← hw1]; repeat (first | (with_reducible exact Below.refl _ _) | (with_reducible refine bal ?_ _) | (with_reducible refine Below.drew ?_) | (with_reducible refine bdn ?_ _))
  have X1 : Row10 w1 w.heap.size (.int .i64 kd) (.bool g) (.int .u64 x0) (.int .u64 x1) (.int .u64 x2) (.int .u64 x3) (.int .u64 b) (.string s) (.slice la n lc) (.slice ka m kc) := by rw [← hw1]; exact Row10.new _ _ _ _ _ _ _ _ _ _ _
  clear hw1
  obtain ⟨q0, q1, q2, q3, q4, q5, q6, q7, q8, q9⟩ := X1.parts
  have r0 := cell_regrown q0
  have r1 := cell_regrown q1
  have r2 := cell_regrown q2
  have r3 := cell_regrown q3
  have r4 := cell_regrown q4
  have r5 := cell_regrown q5
  have r6 := cell_regrown q6
  have r7 := cell_regrown q7
  have r8 := cell_regrown q8
  have r9 := cell_regrown q9
  clear q0 q1 q2 q3 q4 q5 q6 q7 q8 q9
  have cq0 := fun (d : Nat) (os : Array Obj) => Calls.regrown_of (w := w1) (d := d) (os := os) (outline_any kd g x0 x1 x2 x3 b s la n lc ka m kc _)
  have cq1 := fun (d : Nat) (os : Array Obj) => Calls.regrown_of (w := w1) (d := d) (os := os) (M1.out _)
  have cq2 := fun (d : Nat) (os : Array Obj) => Calls.regrown_of (w := w1) (d := d) (os := os) (outline_any kd h y0 y1 y2 y3 b' s' la' n' lc' ka' m' kc' _)
  refine wp_region_quiet_below (by kernel_rfl) (by kernel_rfl) ?_
  repeat (first | go_big_quiet_step ((first | with_reducible exact cq0 _ _ | with_reducible exact cq1 _ _ | with_reducible exact cq2 _ _)) | quiet_step (first | with_reducible exact cq0 _ _ | with_reducible exact cq1 _ _ | with_reducible exact cq2 _ _))
  refine wpQuiet_nil ?_
  intro _ hw'
  obtain ⟨⟨dq, osq⟩, hw''⟩ := hw'
  subst hw''
  clear r0 r1 r2 r3 r4 r5 r6 r7 r8 r9 cq0 cq1 cq2
  have hb := below_regrown w1 dq osq
  generalize grow (redrawn w1 dq) osq = w2 at *
  have BW2 : Below w.heap.size w w2 := btr BW1 hb
  have X2 : Row10 w2 w.heap.size (.int .i64 kd) (.bool g) (.int .u64 x0) (.int .u64 x1) (.int .u64 x2) (.int .u64 x3) (.int .u64 b) (.string s) (.slice la n lc) (.slice ka m kc) := Row10.keep hb X1
  clear X1 BW1 hb
  go_wp2
  go_ret
  exact ⟨rfl, BW2⟩
set_option maxHeartbeats 1000000 in
theorem wrong_k1 (g : Bool) (x0 x1 x2 x3 b : Int) (s : ByteArray) (la : Option Addr) (n lc : Nat) (ka : Option Addr) (m kc : Nat) (h : Bool) (y0 y1 y2 y3 b' : Int) (s' : ByteArray) (la' : Option Addr) (n' lc' : Nat) (ka' : Option Addr) (m' kc' : Nat) (w : World)
    (m1 : ∀ W, Calls Tryz.prog 47 #[V10 1 g x0 x1 x2 x3 b s la n lc ka m kc] W fun e w' => e = .returned (V10 1 h y0 y1 y2 y3 b' s' la' n' lc' ka' m' kc') ∧ Below W.heap.size W w')
    (hD : eqO 1 g x0 x1 x2 x3 b s (m : Int) (n : Int) 1 h y0 y1 y2 y3 b' s' (m' : Int) (n' : Int) = true)
    :
    Calls Tryz.prog 27 #[V10 1 g x0 x1 x2 x3 b s la n lc ka m kc] w fun e w' => e = .returned (.bool false) ∧ Below w.heap.size w w' := by
  have M1 := Lib.hid m1; clear m1
  go_enter Tryz.func27, Tryz.ntmps27
  go_upto_region 1 with (fail)
  go_name_world w1 hw1
  have BW1 : Below w.heap.size w w1 := by rw [← hw1]; repeat (first | (with_reducible exact Below.refl _ _) | (with_reducible refine bal ?_ _) | (with_reducible refine Below.drew ?_) | (with_reducible refine bdn ?_ _))
  have X1 : Row10 w1 w.heap.size (.int .i64 1) (.bool g) (.int .u64 x0) (.int .u64 x1) (.int .u64 x2) (.int .u64 x3) (.int .u64 b) (.string s) (.slice la n lc) (.slice ka m kc) := by rw [← hw1]; exact Row10.new _ _ _ _ _ _ _ _ _ _ _
  clear hw1
  obtain ⟨q0, q1, q2, q3, q4, q5, q6, q7, q8, q9⟩ := X1.parts
  have r0 := cell_regrown q0
  have r1 := cell_regrown q1
  have r2 := cell_regrown q2
  have r3 := cell_regrown q3
  have r4 := cell_regrown q4
  have r5 := cell_regrown q5
  have r6 := cell_regrown q6
  have r7 := cell_regrown q7
  have r8 := cell_regrown q8
  have r9 := cell_regrown q9
  clear q0 q1 q2 q3 q4 q5 q6 q7 q8 q9
  have cq0 := fun (d : Nat) (os : Array Obj) => Calls.regrown_of (w := w1) (d := d) (os := os) (outline_any 1 g x0 x1 x2 x3 b s la n lc ka m kc _)
  have cq1 := fun (d : Nat) (os : Array Obj) => Calls.regrown_of (w := w1) (d := d) (os := os) (M1.out _)
  have cq2 := fun (d : Nat) (os : Array Obj) => Calls.regrown_of (w := w1) (d := d) (os := os) (outline_any 1 h y0 y1 y2 y3 b' s' la' n' lc' ka' m' kc' _)
  refine wp_region_quiet_below (by kernel_rfl) (by kernel_rfl) ?_
  repeat (first | go_big_quiet_step ((first | with_reducible exact cq0 _ _ | with_reducible exact cq1 _ _ | with_reducible exact cq2 _ _)) | quiet_step (first | with_reducible exact cq0 _ _ | with_reducible exact cq1 _ _ | with_reducible exact cq2 _ _))
  refine wpQuiet_nil ?_
  intro _ hw'
  obtain ⟨⟨dq, osq⟩, hw''⟩ := hw'
  subst hw''
  clear r0 r1 r2 r3 r4 r5 r6 r7 r8 r9 cq0 cq1 cq2
  have hb := below_regrown w1 dq osq
  generalize grow (redrawn w1 dq) osq = w2 at *
  have BW2 : Below w.heap.size w w2 := btr BW1 hb
  have X2 : Row10 w2 w.heap.size (.int .i64 1) (.bool g) (.int .u64 x0) (.int .u64 x1) (.int .u64 x2) (.int .u64 x3) (.int .u64 b) (.string s) (.slice la n lc) (.slice ka m kc) := Row10.keep hb X1
  clear X1 BW1 hb
  obtain ⟨q0, q1, q2, q3, q4, q5, q6, q7, q8, q9⟩ := X2.parts
  go_wp2
  go_ret
  exact ⟨rfl, BW2⟩
set_option maxHeartbeats 1000000 in
theorem wrong_k6 (g : Bool) (x0 x1 x2 x3 b : Int) (s : ByteArray) (la : Option Addr) (n lc : Nat) (ka : Option Addr) (m kc : Nat) (h : Bool) (y0 y1 y2 y3 b' : Int) (s' : ByteArray) (la' : Option Addr) (n' lc' : Nat) (ka' : Option Addr) (m' kc' : Nat) (w : World)
    (m1 : ∀ W, Calls Tryz.prog 47 #[V10 6 g x0 x1 x2 x3 b s la n lc ka m kc] W fun e w' => e = .returned (V10 6 h y0 y1 y2 y3 b' s' la' n' lc' ka' m' kc') ∧ Below W.heap.size W w')
    (hD : eqO 6 g x0 x1 x2 x3 b s (m : Int) (n : Int) 6 h y0 y1 y2 y3 b' s' (m' : Int) (n' : Int) = true)
    :
    Calls Tryz.prog 27 #[V10 6 g x0 x1 x2 x3 b s la n lc ka m kc] w fun e w' => e = .returned (.bool false) ∧ Below w.heap.size w w' := by
  have M1 := Lib.hid m1; clear m1
  go_enter Tryz.func27, Tryz.ntmps27
  go_upto_region 1 with (fail)
  go_name_world w1 hw1
  have BW1 : Below w.heap.size w w1 := by rw [← hw1]; repeat (first | (with_reducible exact Below.refl _ _) | (with_reducible refine bal ?_ _) | (with_reducible refine Below.drew ?_) | (with_reducible refine bdn ?_ _))
  have X1 : Row10 w1 w.heap.size (.int .i64 6) (.bool g) (.int .u64 x0) (.int .u64 x1) (.int .u64 x2) (.int .u64 x3) (.int .u64 b) (.string s) (.slice la n lc) (.slice ka m kc) := by rw [← hw1]; exact Row10.new _ _ _ _ _ _ _ _ _ _ _
  clear hw1
  obtain ⟨q0, q1, q2, q3, q4, q5, q6, q7, q8, q9⟩ := X1.parts
  have r0 := cell_regrown q0
  have r1 := cell_regrown q1
  have r2 := cell_regrown q2
  have r3 := cell_regrown q3
  have r4 := cell_regrown q4
  have r5 := cell_regrown q5
  have r6 := cell_regrown q6
  have r7 := cell_regrown q7
  have r8 := cell_regrown q8
  have r9 := cell_regrown q9
  clear q0 q1 q2 q3 q4 q5 q6 q7 q8 q9
  have cq0 := fun (d : Nat) (os : Array Obj) => Calls.regrown_of (w := w1) (d := d) (os := os) (outline_any 6 g x0 x1 x2 x3 b s la n lc ka m kc _)
  have cq1 := fun (d : Nat) (os : Array Obj) => Calls.regrown_of (w := w1) (d := d) (os := os) (M1.out _)
  have cq2 := fun (d : Nat) (os : Array Obj) => Calls.regrown_of (w := w1) (d := d) (os := os) (outline_any 6 h y0 y1 y2 y3 b' s' la' n' lc' ka' m' kc' _)
  refine wp_region_quiet_below (by kernel_rfl) (by kernel_rfl) ?_
  repeat (first | go_big_quiet_step ((first | with_reducible exact cq0 _ _ | with_reducible exact cq1 _ _ | with_reducible exact cq2 _ _)) | quiet_step (first | with_reducible exact cq0 _ _ | with_reducible exact cq1 _ _ | with_reducible exact cq2 _ _))
  refine wpQuiet_nil ?_
  intro _ hw'
  obtain ⟨⟨dq, osq⟩, hw''⟩ := hw'
  subst hw''
  clear r0 r1 r2 r3 r4 r5 r6 r7 r8 r9 cq0 cq1 cq2
  have hb := below_regrown w1 dq osq
  generalize grow (redrawn w1 dq) osq = w2 at *
  have BW2 : Below w.heap.size w w2 := btr BW1 hb
  have X2 : Row10 w2 w.heap.size (.int .i64 6) (.bool g) (.int .u64 x0) (.int .u64 x1) (.int .u64 x2) (.int .u64 x3) (.int .u64 b) (.string s) (.slice la n lc) (.slice ka m kc) := Row10.keep hb X1
  clear X1 BW1 hb
  obtain ⟨q0, q1, q2, q3, q4, q5, q6, q7, q8, q9⟩ := X2.parts
  go_wp2
  go_ret
  exact ⟨rfl, BW2⟩
set_option maxHeartbeats 1000000 in
theorem wrong_k7 (g : Bool) (x0 x1 x2 x3 b : Int) (s : ByteArray) (la : Option Addr) (n lc : Nat) (ka : Option Addr) (m kc : Nat) (h : Bool) (y0 y1 y2 y3 b' : Int) (s' : ByteArray) (la' : Option Addr) (n' lc' : Nat) (ka' : Option Addr) (m' kc' : Nat) (w : World)
    (m1 : ∀ W, Calls Tryz.prog 47 #[V10 7 g x0 x1 x2 x3 b s la n lc ka m kc] W fun e w' => e = .returned (V10 7 h y0 y1 y2 y3 b' s' la' n' lc' ka' m' kc') ∧ Below W.heap.size W w')
    (hD : eqO 7 g x0 x1 x2 x3 b s (m : Int) (n : Int) 7 h y0 y1 y2 y3 b' s' (m' : Int) (n' : Int) = true)
    :
    Calls Tryz.prog 27 #[V10 7 g x0 x1 x2 x3 b s la n lc ka m kc] w fun e w' => e = .returned (.bool false) ∧ Below w.heap.size w w' := by
  have M1 := Lib.hid m1; clear m1
  go_enter Tryz.func27, Tryz.ntmps27
  go_upto_region 1 with (fail)
  go_name_world w1 hw1
  have BW1 : Below w.heap.size w w1 := by rw [← hw1]; repeat (first | (with_reducible exact Below.refl _ _) | (with_reducible refine bal ?_ _) | (with_reducible refine Below.drew ?_) | (with_reducible refine bdn ?_ _))
  have X1 : Row10 w1 w.heap.size (.int .i64 7) (.bool g) (.int .u64 x0) (.int .u64 x1) (.int .u64 x2) (.int .u64 x3) (.int .u64 b) (.string s) (.slice la n lc) (.slice ka m kc) := by rw [← hw1]; exact Row10.new _ _ _ _ _ _ _ _ _ _ _
  clear hw1
  obtain ⟨q0, q1, q2, q3, q4, q5, q6, q7, q8, q9⟩ := X1.parts
  have r0 := cell_regrown q0
  have r1 := cell_regrown q1
  have r2 := cell_regrown q2
  have r3 := cell_regrown q3
  have r4 := cell_regrown q4
  have r5 := cell_regrown q5
  have r6 := cell_regrown q6
  have r7 := cell_regrown q7
  have r8 := cell_regrown q8
  have r9 := cell_regrown q9
  clear q0 q1 q2 q3 q4 q5 q6 q7 q8 q9
  have cq0 := fun (d : Nat) (os : Array Obj) => Calls.regrown_of (w := w1) (d := d) (os := os) (outline_any 7 g x0 x1 x2 x3 b s la n lc ka m kc _)
  have cq1 := fun (d : Nat) (os : Array Obj) => Calls.regrown_of (w := w1) (d := d) (os := os) (M1.out _)
  have cq2 := fun (d : Nat) (os : Array Obj) => Calls.regrown_of (w := w1) (d := d) (os := os) (outline_any 7 h y0 y1 y2 y3 b' s' la' n' lc' ka' m' kc' _)
  refine wp_region_quiet_below (by kernel_rfl) (by kernel_rfl) ?_
  repeat (first | go_big_quiet_step ((first | with_reducible exact cq0 _ _ | with_reducible exact cq1 _ _ | with_reducible exact cq2 _ _)) | quiet_step (first | with_reducible exact cq0 _ _ | with_reducible exact cq1 _ _ | with_reducible exact cq2 _ _))
  refine wpQuiet_nil ?_
  intro _ hw'
  obtain ⟨⟨dq, osq⟩, hw''⟩ := hw'
  subst hw''
  clear r0 r1 r2 r3 r4 r5 r6 r7 r8 r9 cq0 cq1 cq2
  have hb := below_regrown w1 dq osq
  generalize grow (redrawn w1 dq) osq = w2 at *
  have BW2 : Below w.heap.size w w2 := btr BW1 hb
  have X2 : Row10 w2 w.heap.size (.int .i64 7) (.bool g) (.int .u64 x0) (.int .u64 x1) (.int .u64 x2) (.int .u64 x3) (.int .u64 b) (.string s) (.slice la n lc) (.slice ka m kc) := Row10.keep hb X1
  clear X1 BW1 hb
  obtain ⟨q0, q1, q2, q3, q4, q5, q6, q7, q8, q9⟩ := X2.parts
  go_wp2
  go_ret
  exact ⟨rfl, BW2⟩
set_option maxHeartbeats 1000000 in
theorem wrong_k2 (g : Bool) (x0 x1 x2 x3 b : Int) (s : ByteArray) (la : Option Addr) (n lc : Nat) (ka : Option Addr) (m kc : Nat) (h : Bool) (y0 y1 y2 y3 b' : Int) (s' : ByteArray) (la' : Option Addr) (n' lc' : Nat) (ka' : Option Addr) (m' kc' : Nat) (w : World)
    (m1 : ∀ W, Calls Tryz.prog 47 #[V10 2 g x0 x1 x2 x3 b s la n lc ka m kc] W fun e w' => e = .returned (V10 2 h y0 y1 y2 y3 b' s' la' n' lc' ka' m' kc') ∧ Below W.heap.size W w')
    (hD : eqO 2 g x0 x1 x2 x3 b s (m : Int) (n : Int) 2 h y0 y1 y2 y3 b' s' (m' : Int) (n' : Int) = true)
    :
    Calls Tryz.prog 27 #[V10 2 g x0 x1 x2 x3 b s la n lc ka m kc] w fun e w' => e = .returned (.bool (decide (1 < b))) ∧ Below w.heap.size w w' := by
  have M1 := Lib.hid m1; clear m1
  go_enter Tryz.func27, Tryz.ntmps27
  go_upto_region 1 with (fail)
  go_name_world w1 hw1
  have BW1 : Below w.heap.size w w1 := by rw [← hw1]; repeat (first | (with_reducible exact Below.refl _ _) | (with_reducible refine bal ?_ _) | (with_reducible refine Below.drew ?_) | (with_reducible refine bdn ?_ _))
  have X1 : Row10 w1 w.heap.size (.int .i64 2) (.bool g) (.int .u64 x0) (.int .u64 x1) (.int .u64 x2) (.int .u64 x3) (.int .u64 b) (.string s) (.slice la n lc) (.slice ka m kc) := by rw [← hw1]; exact Row10.new _ _ _ _ _ _ _ _ _ _ _
  clear hw1
  obtain ⟨q0, q1, q2, q3, q4, q5, q6, q7, q8, q9⟩ := X1.parts
  have r0 := cell_regrown q0
  have r1 := cell_regrown q1
  have r2 := cell_regrown q2
  have r3 := cell_regrown q3
  have r4 := cell_regrown q4
  have r5 := cell_regrown q5
  have r6 := cell_regrown q6
  have r7 := cell_regrown q7
  have r8 := cell_regrown q8
  have r9 := cell_regrown q9
  clear q0 q1 q2 q3 q4 q5 q6 q7 q8 q9
  have cq0 := fun (d : Nat) (os : Array Obj) => Calls.regrown_of (w := w1) (d := d) (os := os) (outline_any 2 g x0 x1 x2 x3 b s la n lc ka m kc _)
  have cq1 := fun (d : Nat) (os : Array Obj) => Calls.regrown_of (w := w1) (d := d) (os := os) (M1.out _)
  have cq2 := fun (d : Nat) (os : Array Obj) => Calls.regrown_of (w := w1) (d := d) (os := os) (outline_any 2 h y0 y1 y2 y3 b' s' la' n' lc' ka' m' kc' _)
  refine wp_region_quiet_below (by kernel_rfl) (by kernel_rfl) ?_
  repeat (first | go_big_quiet_step ((first | with_reducible exact cq0 _ _ | with_reducible exact cq1 _ _ | with_reducible exact cq2 _ _)) | quiet_step (first | with_reducible exact cq0 _ _ | with_reducible exact cq1 _ _ | with_reducible exact cq2 _ _))
  refine wpQuiet_nil ?_
  intro _ hw'
  obtain ⟨⟨dq, osq⟩, hw''⟩ := hw'
  subst hw''
  clear r0 r1 r2 r3 r4 r5 r6 r7 r8 r9 cq0 cq1 cq2
  have hb := below_regrown w1 dq osq
  generalize grow (redrawn w1 dq) osq = w2 at *
  have BW2 : Below w.heap.size w w2 := btr BW1 hb
  have X2 : Row10 w2 w.heap.size (.int .i64 2) (.bool g) (.int .u64 x0) (.int .u64 x1) (.int .u64 x2) (.int .u64 x3) (.int .u64 b) (.string s) (.slice la n lc) (.slice ka m kc) := Row10.keep hb X1
  clear X1 BW1 hb
  obtain ⟨q0, q1, q2, q3, q4, q5, q6, q7, q8, q9⟩ := X2.parts
  go_wp2
  go_ret
  exact ⟨rfl, BW2⟩
set_option maxHeartbeats 1000000 in
theorem wrong_k3 (g : Bool) (x0 x1 x2 x3 b : Int) (s : ByteArray) (la : Option Addr) (n lc : Nat) (ka : Option Addr) (m kc : Nat) (h : Bool) (y0 y1 y2 y3 b' : Int) (s' : ByteArray) (la' : Option Addr) (n' lc' : Nat) (ka' : Option Addr) (m' kc' : Nat) (w : World)
    (m1 : ∀ W, Calls Tryz.prog 47 #[V10 3 g x0 x1 x2 x3 b s la n lc ka m kc] W fun e w' => e = .returned (V10 3 h y0 y1 y2 y3 b' s' la' n' lc' ka' m' kc') ∧ Below W.heap.size W w')
    (hD : eqO 3 g x0 x1 x2 x3 b s (m : Int) (n : Int) 3 h y0 y1 y2 y3 b' s' (m' : Int) (n' : Int) = true)
    (q : Bool) (hc : ∀ W, Below w.heap.size w W → Calls Tryz.prog 48 #[.agg #[.bool g, .int .u64 x0, .int .u64 x1, .int .u64 x2, .int .u64 x3]] W fun e w' => e = .returned (.bool q) ∧ Below W.heap.size W w') :
    Calls Tryz.prog 27 #[V10 3 g x0 x1 x2 x3 b s la n lc ka m kc] w fun e w' => e = .returned (.bool (!q)) ∧ Below w.heap.size w w' := by
  have HC := Lib.hid hc; clear hc
  have M1 := Lib.hid m1; clear m1
  go_enter Tryz.func27, Tryz.ntmps27
  go_upto_region 1 with (fail)
  go_name_world w1 hw1
  have BW1 : Below w.heap.size w w1 := by rw [← hw1]; repeat (first | (with_reducible exact Below.refl _ _) | (with_reducible refine bal ?_ _) | (with_reducible refine Below.drew ?_) | (with_reducible refine bdn ?_ _))
  have X1 : Row10 w1 w.heap.size (.int .i64 3) (.bool g) (.int .u64 x0) (.int .u64 x1) (.int .u64 x2) (.int .u64 x3) (.int .u64 b) (.string s) (.slice la n lc) (.slice ka m kc) := by rw [← hw1]; exact Row10.new _ _ _ _ _ _ _ _ _ _ _
  clear hw1
  obtain ⟨q0, q1, q2, q3, q4, q5, q6, q7, q8, q9⟩ := X1.parts
  have r0 := cell_regrown q0
  have r1 := cell_regrown q1
  have r2 := cell_regrown q2
  have r3 := cell_regrown q3
  have r4 := cell_regrown q4
  have r5 := cell_regrown q5
  have r6 := cell_regrown q6
  have r7 := cell_regrown q7
  have r8 := cell_regrown q8
  have r9 := cell_regrown q9
  clear q0 q1 q2 q3 q4 q5 q6 q7 q8 q9
  have cq0 := fun (d : Nat) (os : Array Obj) => Calls.regrown_of (w := w1) (d := d) (os := os) (outline_any 3 g x0 x1 x2 x3 b s la n lc ka m kc _)
  have cq1 := fun (d : Nat) (os : Array Obj) => Calls.regrown_of (w := w1) (d := d) (os := os) (M1.out _)
  have cq2 := fun (d : Nat) (os : Array Obj) => Calls.regrown_of (w := w1) (d := d) (os := os) (outline_any 3 h y0 y1 y2 y3 b' s' la' n' lc' ka' m' kc' _)
  refine wp_region_quiet_below (by kernel_rfl) (by kernel_rfl) ?_
  repeat (first | go_big_quiet_step ((first | with_reducible exact cq0 _ _ | with_reducible exact cq1 _ _ | with_reducible exact cq2 _ _)) | quiet_step (first | with_reducible exact cq0 _ _ | with_reducible exact cq1 _ _ | with_reducible exact cq2 _ _))
  refine wpQuiet_nil ?_
  intro _ hw'
  obtain ⟨⟨dq, osq⟩, hw''⟩ := hw'
  subst hw''
  clear r0 r1 r2 r3 r4 r5 r6 r7 r8 r9 cq0 cq1 cq2
  have hb := below_regrown w1 dq osq
  generalize grow (redrawn w1 dq) osq = w2 at *
  have BW2 : Below w.heap.size w w2 := btr BW1 hb
  have X2 : Row10 w2 w.heap.size (.int .i64 3) (.bool g) (.int .u64 x0) (.int .u64 x1) (.int .u64 x2) (.int .u64 x3) (.int .u64 b) (.string s) (.slice la n lc) (.slice ka m kc) := Row10.keep hb X1
  clear X1 BW1 hb
  obtain ⟨q0, q1, q2, q3, q4, q5, q6, q7, q8, q9⟩ := X2.parts
  go_wp2_with (go_at_call 48; ((with_reducible refine (HC.out _ BW2).mono ?_); rintro e w3 ⟨rfl, hb3⟩))
  go_ret
  exact ⟨rfl, btr BW2 hb3⟩
set_option maxHeartbeats 1000000 in
theorem wrong_k4 (g : Bool) (x0 x1 x2 x3 b : Int) (s : ByteArray) (la : Option Addr) (n lc : Nat) (ka : Option Addr) (m kc : Nat) (h : Bool) (y0 y1 y2 y3 b' : Int) (s' : ByteArray) (la' : Option Addr) (n' lc' : Nat) (ka' : Option Addr) (m' kc' : Nat) (w : World)
    (m1 : ∀ W, Calls Tryz.prog 47 #[V10 4 g x0 x1 x2 x3 b s la n lc ka m kc] W fun e w' => e = .returned (V10 4 h y0 y1 y2 y3 b' s' la' n' lc' ka' m' kc') ∧ Below W.heap.size W w')
    (hD : eqO 4 g x0 x1 x2 x3 b s (m : Int) (n : Int) 4 h y0 y1 y2 y3 b' s' (m' : Int) (n' : Int) = true)
    (q : Bool) (hc : ∀ W, Below w.heap.size w W → Calls Tryz.prog 49 #[.int .u64 b] W fun e w' => e = .returned (.bool q) ∧ Below W.heap.size W w') :
    Calls Tryz.prog 27 #[V10 4 g x0 x1 x2 x3 b s la n lc ka m kc] w fun e w' => e = .returned (.bool (!q)) ∧ Below w.heap.size w w' := by
  have HC := Lib.hid hc; clear hc
  have M1 := Lib.hid m1; clear m1
  go_enter Tryz.func27, Tryz.ntmps27
  go_upto_region 1 with (fail)
  go_name_world w1 hw1
  have BW1 : Below w.heap.size w w1 := by rw [← hw1]; repeat (first | (with_reducible exact Below.refl _ _) | (with_reducible refine bal ?_ _) | (with_reducible refine Below.drew ?_) | (with_reducible refine bdn ?_ _))
  have X1 : Row10 w1 w.heap.size (.int .i64 4) (.bool g) (.int .u64 x0) (.int .u64 x1) (.int .u64 x2) (.int .u64 x3) (.int .u64 b) (.string s) (.slice la n lc) (.slice ka m kc) := by rw [← hw1]; exact Row10.new _ _ _ _ _ _ _ _ _ _ _
  clear hw1
  obtain ⟨q0, q1, q2, q3, q4, q5, q6, q7, q8, q9⟩ := X1.parts
  have r0 := cell_regrown q0
  have r1 := cell_regrown q1
  have r2 := cell_regrown q2
  have r3 := cell_regrown q3
  have r4 := cell_regrown q4
  have r5 := cell_regrown q5
  have r6 := cell_regrown q6
  have r7 := cell_regrown q7
  have r8 := cell_regrown q8
  have r9 := cell_regrown q9
  clear q0 q1 q2 q3 q4 q5 q6 q7 q8 q9
  have cq0 := fun (d : Nat) (os : Array Obj) => Calls.regrown_of (w := w1) (d := d) (os := os) (outline_any 4 g x0 x1 x2 x3 b s la n lc ka m kc _)
  have cq1 := fun (d : Nat) (os : Array Obj) => Calls.regrown_of (w := w1) (d := d) (os := os) (M1.out _)
  have cq2 := fun (d : Nat) (os : Array Obj) => Calls.regrown_of (w := w1) (d := d) (os := os) (outline_any 4 h y0 y1 y2 y3 b' s' la' n' lc' ka' m' kc' _)
  refine wp_region_quiet_below (by kernel_rfl) (by kernel_rfl) ?_
  repeat (first | go_big_quiet_step ((first | with_reducible exact cq0 _ _ | with_reducible exact cq1 _ _ | with_reducible exact cq2 _ _)) | quiet_step (first | with_reducible exact cq0 _ _ | with_reducible exact cq1 _ _ | with_reducible exact cq2 _ _))
  refine wpQuiet_nil ?_
  intro _ hw'
  obtain ⟨⟨dq, osq⟩, hw''⟩ := hw'
  subst hw''
  clear r0 r1 r2 r3 r4 r5 r6 r7 r8 r9 cq0 cq1 cq2
  have hb := below_regrown w1 dq osq
  generalize grow (redrawn w1 dq) osq = w2 at *
  have BW2 : Below w.heap.size w w2 := btr BW1 hb
  have X2 : Row10 w2 w.heap.size (.int .i64 4) (.bool g) (.int .u64 x0) (.int .u64 x1) (.int .u64 x2) (.int .u64 x3) (.int .u64 b) (.string s) (.slice la n lc) (.slice ka m kc) := Row10.keep hb X1
  clear X1 BW1 hb
  obtain ⟨q0, q1, q2, q3, q4, q5, q6, q7, q8, q9⟩ := X2.parts
  go_wp2_with (go_at_call 49; ((with_reducible refine (HC.out _ BW2).mono ?_); rintro e w3 ⟨rfl, hb3⟩))
  go_ret
  exact ⟨rfl, btr BW2 hb3⟩
set_option maxHeartbeats 1000000 in
theorem wrong_k5 (g : Bool) (x0 x1 x2 x3 b : Int) (s : ByteArray) (la : Option Addr) (n lc : Nat) (ka : Option Addr) (m kc : Nat) (h : Bool) (y0 y1 y2 y3 b' : Int) (s' : ByteArray) (la' : Option Addr) (n' lc' : Nat) (ka' : Option Addr) (m' kc' : Nat) (w : World)
    (m1 : ∀ W, Calls Tryz.prog 47 #[V10 5 g x0 x1 x2 x3 b s la n lc ka m kc] W fun e w' => e = .returned (V10 5 h y0 y1 y2 y3 b' s' la' n' lc' ka' m' kc') ∧ Below W.heap.size W w')
    (hD : eqO 5 g x0 x1 x2 x3 b s (m : Int) (n : Int) 5 h y0 y1 y2 y3 b' s' (m' : Int) (n' : Int) = true)
    (q : Bool) (hc : ∀ W, Below w.heap.size w W → Calls Tryz.prog 50 #[.string s] W fun e w' => e = .returned (.bool q) ∧ Below W.heap.size W w') :
    Calls Tryz.prog 27 #[V10 5 g x0 x1 x2 x3 b s la n lc ka m kc] w fun e w' => e = .returned (.bool (!q)) ∧ Below w.heap.size w w' := by
  have HC := Lib.hid hc; clear hc
  have M1 := Lib.hid m1; clear m1
  go_enter Tryz.func27, Tryz.ntmps27
  go_upto_region 1 with (fail)
  go_name_world w1 hw1
  have BW1 : Below w.heap.size w w1 := by rw [← hw1]; repeat (first | (with_reducible exact Below.refl _ _) | (with_reducible refine bal ?_ _) | (with_reducible refine Below.drew ?_) | (with_reducible refine bdn ?_ _))
  have X1 : Row10 w1 w.heap.size (.int .i64 5) (.bool g) (.int .u64 x0) (.int .u64 x1) (.int .u64 x2) (.int .u64 x3) (.int .u64 b) (.string s) (.slice la n lc) (.slice ka m kc) := by rw [← hw1]; exact Row10.new _ _ _ _ _ _ _ _ _ _ _
  clear hw1
  obtain ⟨q0, q1, q2, q3, q4, q5, q6, q7, q8, q9⟩ := X1.parts
  have r0 := cell_regrown q0
  have r1 := cell_regrown q1
  have r2 := cell_regrown q2
  have r3 := cell_regrown q3
  have r4 := cell_regrown q4
  have r5 := cell_regrown q5
  have r6 := cell_regrown q6
  have r7 := cell_regrown q7
  have r8 := cell_regrown q8
  have r9 := cell_regrown q9
  clear q0 q1 q2 q3 q4 q5 q6 q7 q8 q9
  have cq0 := fun (d : Nat) (os : Array Obj) => Calls.regrown_of (w := w1) (d := d) (os := os) (outline_any 5 g x0 x1 x2 x3 b s la n lc ka m kc _)
  have cq1 := fun (d : Nat) (os : Array Obj) => Calls.regrown_of (w := w1) (d := d) (os := os) (M1.out _)
  have cq2 := fun (d : Nat) (os : Array Obj) => Calls.regrown_of (w := w1) (d := d) (os := os) (outline_any 5 h y0 y1 y2 y3 b' s' la' n' lc' ka' m' kc' _)
  refine wp_region_quiet_below (by kernel_rfl) (by kernel_rfl) ?_
  repeat (first | go_big_quiet_step ((first | with_reducible exact cq0 _ _ | with_reducible exact cq1 _ _ | with_reducible exact cq2 _ _)) | quiet_step (first | with_reducible exact cq0 _ _ | with_reducible exact cq1 _ _ | with_reducible exact cq2 _ _))
  refine wpQuiet_nil ?_
  intro _ hw'
  obtain ⟨⟨dq, osq⟩, hw''⟩ := hw'
  subst hw''
  clear r0 r1 r2 r3 r4 r5 r6 r7 r8 r9 cq0 cq1 cq2
  have hb := below_regrown w1 dq osq
  generalize grow (redrawn w1 dq) osq = w2 at *
  have BW2 : Below w.heap.size w w2 := btr BW1 hb
  have X2 : Row10 w2 w.heap.size (.int .i64 5) (.bool g) (.int .u64 x0) (.int .u64 x1) (.int .u64 x2) (.int .u64 x3) (.int .u64 b) (.string s) (.slice la n lc) (.slice ka m kc) := Row10.keep hb X1
  clear X1 BW1 hb
  obtain ⟨q0, q1, q2, q3, q4, q5, q6, q7, q8, q9⟩ := X2.parts
  go_wp2_with (go_at_call 50; ((with_reducible refine (HC.out _ BW2).mono ?_); rintro e w3 ⟨rfl, hb3⟩))
  go_ret
  exact ⟨rfl, btr BW2 hb3⟩
set_option maxHeartbeats 1000000 in
theorem wrong_k8n (g : Bool) (x0 x1 x2 x3 b : Int) (s : ByteArray) (la : Option Addr) (n lc : Nat) (ka : Option Addr) (m kc : Nat) (h : Bool) (y0 y1 y2 y3 b' : Int) (s' : ByteArray) (la' : Option Addr) (n' lc' : Nat) (ka' : Option Addr) (m' kc' : Nat) (w : World)
    (m1 : ∀ W, Calls Tryz.prog 47 #[V10 8 g x0 x1 x2 x3 b s la n lc ka m kc] W fun e w' => e = .returned (V10 8 h y0 y1 y2 y3 b' s' la' n' lc' ka' m' kc') ∧ Below W.heap.size W w')
    (hD : eqO 8 g x0 x1 x2 x3 b s (m : Int) (n : Int) 8 h y0 y1 y2 y3 b' s' (m' : Int) (n' : Int) = true)
    (hmn : m ≠ n) :
    Calls Tryz.prog 27 #[V10 8 g x0 x1 x2 x3 b s la n lc ka m kc] w fun e w' => e = .returned (.bool true) ∧ Below w.heap.size w w' := by
  have hmn2 : ((m : Int) != (n : Int)) = true := by rw [bne_iff_ne]; omega
  have M1 := Lib.hid m1; clear m1
  go_enter Tryz.func27, Tryz.ntmps27
  go_upto_region 1 with (fail)
  go_name_world w1 hw1
  have BW1 : Below w.heap.size w w1 := by rw [← hw1]; repeat (first | (with_reducible exact Below.refl _ _) | (with_reducible refine bal ?_ _) | (with_reducible refine Below.drew ?_) | (with_reducible refine bdn ?_ _))
  have X1 : Row10 w1 w.heap.size (.int .i64 8) (.bool g) (.int .u64 x0) (.int .u64 x1) (.int .u64 x2) (.int .u64 x3) (.int .u64 b) (.string s) (.slice la n lc) (.slice ka m kc) := by rw [← hw1]; exact Row10.new _ _ _ _ _ _ _ _ _ _ _
  clear hw1
  obtain ⟨q0, q1, q2, q3, q4, q5, q6, q7, q8, q9⟩ := X1.parts
  have r0 := cell_regrown q0
  have r1 := cell_regrown q1
  have r2 := cell_regrown q2
  have r3 := cell_regrown q3
  have r4 := cell_regrown q4
  have r5 := cell_regrown q5
  have r6 := cell_regrown q6
  have r7 := cell_regrown q7
  have r8 := cell_regrown q8
  have r9 := cell_regrown q9
  clear q0 q1 q2 q3 q4 q5 q6 q7 q8 q9
  have cq0 := fun (d : Nat) (os : Array Obj) => Calls.regrown_of (w := w1) (d := d) (os := os) (outline_any 8 g x0 x1 x2 x3 b s la n lc ka m kc _)
  have cq1 := fun (d : Nat) (os : Array Obj) => Calls.regrown_of (w := w1) (d := d) (os := os) (M1.out _)
  have cq2 := fun (d : Nat) (os : Array Obj) => Calls.regrown_of (w := w1) (d := d) (os := os) (outline_any 8 h y0 y1 y2 y3 b' s' la' n' lc' ka' m' kc' _)
  refine wp_region_quiet_below (by kernel_rfl) (by kernel_rfl) ?_
  repeat (first | go_big_quiet_step ((first | with_reducible exact cq0 _ _ | with_reducible exact cq1 _ _ | with_reducible exact cq2 _ _)) | quiet_step (first | with_reducible exact cq0 _ _ | with_reducible exact cq1 _ _ | with_reducible exact cq2 _ _))
  refine wpQuiet_nil ?_
  intro _ hw'
  obtain ⟨⟨dq, osq⟩, hw''⟩ := hw'
  subst hw''
  clear r0 r1 r2 r3 r4 r5 r6 r7 r8 r9 cq0 cq1 cq2
  have hb := below_regrown w1 dq osq
  generalize grow (redrawn w1 dq) osq = w2 at *
  have BW2 : Below w.heap.size w w2 := btr BW1 hb
  have X2 : Row10 w2 w.heap.size (.int .i64 8) (.bool g) (.int .u64 x0) (.int .u64 x1) (.int .u64 x2) (.int .u64 x3) (.int .u64 b) (.string s) (.slice la n lc) (.slice ka m kc) := Row10.keep hb X1
  clear X1 BW1 hb
  obtain ⟨q0, q1, q2, q3, q4, q5, q6, q7, q8, q9⟩ := X2.parts
  go_wp2
  go_ret
  exact ⟨rfl, BW2⟩
set_option maxHeartbeats 1000000 in
theorem wrong_k8 (g : Bool) (x0 x1 x2 x3 b : Int) (s : ByteArray) (la : Option Addr) (n lc : Nat) (ka : Option Addr) (m kc : Nat) (h : Bool) (y0 y1 y2 y3 b' : Int) (s' : ByteArray) (la' : Option Addr) (n' lc' : Nat) (ka' : Option Addr) (m' kc' : Nat) (w : World)
    (m1 : ∀ W, Calls Tryz.prog 47 #[V10 8 g x0 x1 x2 x3 b s la n lc ka m kc] W fun e w' => e = .returned (V10 8 h y0 y1 y2 y3 b' s' la' n' lc' ka' m' kc') ∧ Below W.heap.size W w')
    (hD : eqO 8 g x0 x1 x2 x3 b s (m : Int) (n : Int) 8 h y0 y1 y2 y3 b' s' (m' : Int) (n' : Int) = true)
    (hmn : m = n) (q : Bool) (hc : ∀ W, Below w.heap.size w W → Calls Tryz.prog 51 #[.slice ka m kc] W fun e w' => e = .returned (.bool q) ∧ Below W.heap.size W w') :
    Calls Tryz.prog 27 #[V10 8 g x0 x1 x2 x3 b s la n lc ka m kc] w fun e w' => e = .returned (.bool (!q)) ∧ Below w.heap.size w w' := by
  have HC := Lib.hid hc; clear hc
  have HM2 : Hid (((m : Int) != (n : Int)) = false) := by show _ = _; rw [bne_eq_false_iff_eq]; omega
  clear hmn
  have M1 := Lib.hid m1; clear m1
  go_enter Tryz.func27, Tryz.ntmps27
  go_upto_region 1 with (fail)
  go_name_world w1 hw1
  have BW1 : Below w.heap.size w w1 := by rw [← hw1]; repeat (first | (with_reducible exact Below.refl _ _) | (with_reducible refine bal ?_ _) | (with_reducible refine Below.drew ?_) | (with_reducible refine bdn ?_ _))
  have X1 : Row10 w1 w.heap.size (.int .i64 8) (.bool g) (.int .u64 x0) (.int .u64 x1) (.int .u64 x2) (.int .u64 x3) (.int .u64 b) (.string s) (.slice la n lc) (.slice ka m kc) := by rw [← hw1]; exact Row10.new _ _ _ _ _ _ _ _ _ _ _
  clear hw1
  obtain ⟨q0, q1, q2, q3, q4, q5, q6, q7, q8, q9⟩ := X1.parts
  have r0 := cell_regrown q0
  have r1 := cell_regrown q1
  have r2 := cell_regrown q2
  have r3 := cell_regrown q3
  have r4 := cell_regrown q4
  have r5 := cell_regrown q5
  have r6 := cell_regrown q6
  have r7 := cell_regrown q7
  have r8 := cell_regrown q8
  have r9 := cell_regrown q9
  clear q0 q1 q2 q3 q4 q5 q6 q7 q8 q9
  have cq0 := fun (d : Nat) (os : Array Obj) => Calls.regrown_of (w := w1) (d := d) (os := os) (outline_any 8 g x0 x1 x2 x3 b s la n lc ka m kc _)
  have cq1 := fun (d : Nat) (os : Array Obj) => Calls.regrown_of (w := w1) (d := d) (os := os) (M1.out _)
  have cq2 := fun (d : Nat) (os : Array Obj) => Calls.regrown_of (w := w1) (d := d) (os := os) (outline_any 8 h y0 y1 y2 y3 b' s' la' n' lc' ka' m' kc' _)
  refine wp_region_quiet_below (by kernel_rfl) (by kernel_rfl) ?_
  repeat (first | go_big_quiet_step ((first | with_reducible exact cq0 _ _ | with_reducible exact cq1 _ _ | with_reducible exact cq2 _ _)) | quiet_step (first | with_reducible exact cq0 _ _ | with_reducible exact cq1 _ _ | with_reducible exact cq2 _ _))
  refine wpQuiet_nil ?_
  intro _ hw'
  obtain ⟨⟨dq, osq⟩, hw''⟩ := hw'
  subst hw''
  clear r0 r1 r2 r3 r4 r5 r6 r7 r8 r9 cq0 cq1 cq2
  have hb := below_regrown w1 dq osq
  generalize grow (redrawn w1 dq) osq = w2 at *
  have BW2 : Below w.heap.size w w2 := btr BW1 hb
  have X2 : Row10 w2 w.heap.size (.int .i64 8) (.bool g) (.int .u64 x0) (.int .u64 x1) (.int .u64 x2) (.int .u64 x3) (.int .u64 b) (.string s) (.slice la n lc) (.slice ka m kc) := Row10.keep hb X1
  clear X1 BW1 hb
  obtain ⟨q0, q1, q2, q3, q4, q5, q6, q7, q8, q9⟩ := X2.parts
  have hmn2 := HM2.out
  go_wp2_with (go_at_call 51; ((with_reducible refine (HC.out _ BW2).mono ?_); rintro e w3 ⟨rfl, hb3⟩))
  go_ret
  exact ⟨rfl, btr BW2 hb3⟩
set_option maxHeartbeats 1000000 in
theorem wrong_none (kd : Int) (h1 : (kd == 1) = false) (h2 : (kd == 2) = false) (h3 : (kd == 3) = false) (h4 : (kd == 4) = false) (h5 : (kd == 5) = false) (h6 : (kd == 6) = false) (h7 : (kd == 7) = false) (h8 : (kd == 8) = false) (g : Bool) (x0 x1 x2 x3 b : Int) (s : ByteArray) (la : Option Addr) (n lc : Nat) (ka : Option Addr) (m kc : Nat) (h : Bool) (y0 y1 y2 y3 b' : Int) (s' : ByteArray) (la' : Option Addr) (n' lc' : Nat) (ka' : Option Addr) (m' kc' : Nat) (w : World)
    (m1 : ∀ W, Calls Tryz.prog 47 #[V10 kd g x0 x1 x2 x3 b s la n lc ka m kc] W fun e w' => e = .returned (V10 kd h y0 y1 y2 y3 b' s' la' n' lc' ka' m' kc') ∧ Below W.heap.size W w')
    (hD : eqO kd g x0 x1 x2 x3 b s (m : Int) (n : Int) kd h y0 y1 y2 y3 b' s' (m' : Int) (n' : Int) = true)
    :
    Calls Tryz.prog 27 #[V10 kd g x0 x1 x2 x3 b s la n lc ka m kc] w fun e w' => e = .returned (.bool true) ∧ Below w.heap.size w w' := by
  have M1 := Lib.hid m1; clear m1
  go_enter Tryz.func27, Tryz.ntmps27
  go_upto_region 1 with (fail)
  go_name_world w1 hw1
  have BW1 : Below w.heap.size w w1 := by rw [← hw1]; repeat (first | (with_reducible exact Below.refl _ _) | (with_reducible refine bal ?_ _) | (with_reducible refine Below.drew ?_) | (with_reducible refine bdn ?_ _))
  have X1 : Row10 w1 w.heap.size (.int .i64 kd) (.bool g) (.int .u64 x0) (.int .u64 x1) (.int .u64 x2) (.int .u64 x3) (.int .u64 b) (.string s) (.slice la n lc) (.slice ka m kc) := by rw [← hw1]; exact Row10.new _ _ _ _ _ _ _ _ _ _ _
  clear hw1
  obtain ⟨q0, q1, q2, q3, q4, q5, q6, q7, q8, q9⟩ := X1.parts
  have r0 := cell_regrown q0
  have r1 := cell_regrown q1
  have r2 := cell_regrown q2
  have r3 := cell_regrown q3
  have r4 := cell_regrown q4
  have r5 := cell_regrown q5
  have r6 := cell_regrown q6
  have r7 := cell_regrown q7
  have r8 := cell_regrown q8
  have r9 := cell_regrown q9
  clear q0 q1 q2 q3 q4 q5 q6 q7 q8 q9
  have cq0 := fun (d : Nat) (os : Array Obj) => Calls.regrown_of (w := w1) (d := d) (os := os) (outline_any kd g x0 x1 x2 x3 b s la n lc ka m kc _)
  have cq1 := fun (d : Nat) (os : Array Obj) => Calls.regrown_of (w := w1) (d := d) (os := os) (M1.out _)
  have cq2 := fun (d : Nat) (os : Array Obj) => Calls.regrown_of (w := w1) (d := d) (os := os) (outline_any kd h y0 y1 y2 y3 b' s' la' n' lc' ka' m' kc' _)
  refine wp_region_quiet_below (by kernel_rfl) (by kernel_rfl) ?_
  repeat (first | go_big_quiet_step ((first | with_reducible exact cq0 _ _ | with_reducible exact cq1 _ _ | with_reducible exact cq2 _ _)) | quiet_step (first | with_reducible exact cq0 _ _ | with_reducible exact cq1 _ _ | with_reducible exact cq2 _ _))
  refine wpQuiet_nil ?_
  intro _ hw'
  obtain ⟨⟨dq, osq⟩, hw''⟩ := hw'
  subst hw''
  clear r0 r1 r2 r3 r4 r5 r6 r7 r8 r9 cq0 cq1 cq2
  have hb := below_regrown w1 dq osq
  generalize grow (redrawn w1 dq) osq = w2 at *
  have BW2 : Below w.heap.size w w2 := btr BW1 hb
  have X2 : Row10 w2 w.heap.size (.int .i64 kd) (.bool g) (.int .u64 x0) (.int .u64 x1) (.int .u64 x2) (.int .u64 x3) (.int .u64 b) (.string s) (.slice la n lc) (.slice ka m kc) := Row10.keep hb X1
  clear X1 BW1 hb
  obtain ⟨q0, q1, q2, q3, q4, q5, q6, q7, q8, q9⟩ := X2.parts
  go_wp2
  go_ret
  exact ⟨rfl, BW2⟩
end Go.Proofs.YtfaaagmjmljhiaaGreatDoor
