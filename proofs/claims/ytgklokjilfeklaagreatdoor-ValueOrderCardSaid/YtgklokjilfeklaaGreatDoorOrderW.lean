/-
  entrepotlaw6.ValueOrder answers true for any two values.
-/
import Derived.Test.YtgklokjilfeklaaGreatDoorR6Cmp
import Derived.Test.YtgklokjilfeklaaGreatDoorR6Same
import Derived.Test.YtgklokjilfeklaaGreatDoorR6Long
namespace Go.Proofs.YtgklokjilfeklaaGreatDoor
open Go.RowKit Go.Shelf
open Go.Sort (grow)

set_option maxRecDepth 100000 in
set_option maxHeartbeats 8000000 in
theorem order_told1 (kdA : Int) (gA : Bool) (x0A x1A x2A x3A bA : Int) (sA : ByteArray) (laA : Option Addr) (nA lcA : Nat) (kaA : Option Addr) (mA kcA : Nat) (kdB : Int) (gB : Bool) (x0B x1B x2B x3B bB : Int) (sB : ByteArray) (laB : Option Addr) (nB lcB : Nat) (kaB : Option Addr) (mB kcB : Nat) (w : World) (hT : Tb w)
    (k1 : ∀ W, Below w.heap.size w W → Calls Tryz.prog 11 #[V10 kdA gA x0A x1A x2A x3A bA sA laA nA lcA kaA mA kcA] W fun e w' => e = .returned (.bool false) ∧ Below W.heap.size W w') :
    Calls Tryz.prog 5 #[V10 kdA gA x0A x1A x2A x3A bA sA laA nA lcA kaA mA kcA, V10 kdB gB x0B x1B x2B x3B bB sB laB nB lcB kaB mB kcB] w fun e w' => e = .returned (.bool true) ∧ Below w.heap.size w w' := by
  have HT := Lib.hid hT
  have K1 := Lib.hid k1
  clear hT k1
  go_enter Tryz.func5, Tryz.ntmps5
  go_upto_region 1 with (fail)
  go_name_world w1 hw1
  have B1 := Lib.hid (show Below w.heap.size w w1 from by rw [← hw1]; repeat (first | (with_reducible exact Below.refl _ _) | (with_reducible refine bal ?_ _) | (with_reducible refine Below.drew ?_) | (with_reducible refine bdn ?_ _)))
  have XA1 : Row10 w1 w.heap.size (.int .i64 kdA) (.bool gA) (.int .u64 x0A) (.int .u64 x1A) (.int .u64 x2A) (.int .u64 x3A) (.int .u64 bA) (.string sA) (.slice laA nA lcA) (.slice kaA mA kcA) := by rw [← hw1]; exact Row10.alloc (Row10.new _ _ _ _ _ _ _ _ _ _ _) _
  have XB1 : Row10 w1 (w.heap.size + 1) (.int .i64 kdB) (.bool gB) (.int .u64 x0B) (.int .u64 x1B) (.int .u64 x2B) (.int .u64 x3B) (.int .u64 bB) (.string sB) (.slice laB nB lcB) (.slice kaB mB kcB) := by rw [← hw1]; exact row10_new2 _ _ _ _ _ _ _ _ _ _ _ _
  clear hw1
  obtain ⟨pA0, pA1, pA2, pA3, pA4, pA5, pA6, pA7, pA8, pA9⟩ := XA1.parts
  go_wp2_with fail
  ((with_reducible refine (K1.out _ B1.out).mono ?_); rintro e w2 ⟨rfl, hb⟩)
  have B2 := Lib.hid (btr B1.out hb); have XA2 := Row10.keep hb XA1; have XB2 := Row10.keep hb XB1
  clear hb B1 XA1 XB1
  clear pA0 pA1 pA2 pA3 pA4 pA5 pA6 pA7 pA8 pA9
  go_wp2_with (go_at_call 12; ((with_reducible refine (told6_true _ (tb_on HT.out B2.out)).mono ?_); rintro e w99 ⟨rfl, hb⟩))
  go_ret
  exact ⟨rfl, btr B2.out hb⟩
set_option maxRecDepth 100000 in
set_option maxHeartbeats 8000000 in
theorem order_told2 (kdA : Int) (gA : Bool) (x0A x1A x2A x3A bA : Int) (sA : ByteArray) (laA : Option Addr) (nA lcA : Nat) (kaA : Option Addr) (mA kcA : Nat) (kdB : Int) (gB : Bool) (x0B x1B x2B x3B bB : Int) (sB : ByteArray) (laB : Option Addr) (nB lcB : Nat) (kaB : Option Addr) (mB kcB : Nat) (w : World) (hT : Tb w)
    (k1 : ∀ W, Below w.heap.size w W → Calls Tryz.prog 11 #[V10 kdA gA x0A x1A x2A x3A bA sA laA nA lcA kaA mA kcA] W fun e w' => e = .returned (.bool true) ∧ Below W.heap.size W w')
    (k2 : ∀ W, Below w.heap.size w W → Calls Tryz.prog 11 #[V10 kdB gB x0B x1B x2B x3B bB sB laB nB lcB kaB mB kcB] W fun e w' => e = .returned (.bool false) ∧ Below W.heap.size W w') :
    Calls Tryz.prog 5 #[V10 kdA gA x0A x1A x2A x3A bA sA laA nA lcA kaA mA kcA, V10 kdB gB x0B x1B x2B x3B bB sB laB nB lcB kaB mB kcB] w fun e w' => e = .returned (.bool true) ∧ Below w.heap.size w w' := by
  have HT := Lib.hid hT
  have K1 := Lib.hid k1; have K2 := Lib.hid k2
  clear hT k1 k2
  go_enter Tryz.func5, Tryz.ntmps5
  go_upto_region 1 with (fail)
  go_name_world w1 hw1
  have B1 := Lib.hid (show Below w.heap.size w w1 from by rw [← hw1]; repeat (first | (with_reducible exact Below.refl _ _) | (with_reducible refine bal ?_ _) | (with_reducible refine Below.drew ?_) | (with_reducible refine bdn ?_ _)))
  have XA1 : Row10 w1 w.heap.size (.int .i64 kdA) (.bool gA) (.int .u64 x0A) (.int .u64 x1A) (.int .u64 x2A) (.int .u64 x3A) (.int .u64 bA) (.string sA) (.slice laA nA lcA) (.slice kaA mA kcA) := by rw [← hw1]; exact Row10.alloc (Row10.new _ _ _ _ _ _ _ _ _ _ _) _
  have XB1 : Row10 w1 (w.heap.size + 1) (.int .i64 kdB) (.bool gB) (.int .u64 x0B) (.int .u64 x1B) (.int .u64 x2B) (.int .u64 x3B) (.int .u64 bB) (.string sB) (.slice laB nB lcB) (.slice kaB mB kcB) := by rw [← hw1]; exact row10_new2 _ _ _ _ _ _ _ _ _ _ _ _
  clear hw1
  obtain ⟨pA0, pA1, pA2, pA3, pA4, pA5, pA6, pA7, pA8, pA9⟩ := XA1.parts
  go_wp2_with fail
  ((with_reducible refine (K1.out _ B1.out).mono ?_); rintro e w2 ⟨rfl, hb⟩)
  have B2 := Lib.hid (btr B1.out hb); have XA2 := Row10.keep hb XA1; have XB2 := Row10.keep hb XB1
  clear hb B1 XA1 XB1
  clear pA0 pA1 pA2 pA3 pA4 pA5 pA6 pA7 pA8 pA9
  obtain ⟨pB0, pB1, pB2, pB3, pB4, pB5, pB6, pB7, pB8, pB9⟩ := XB2.parts
  go_wp2_with fail
  ((with_reducible refine (K2.out _ B2.out).mono ?_); rintro e w3 ⟨rfl, hb⟩)
  have B3 := Lib.hid (btr B2.out hb); have XA3 := Row10.keep hb XA2; have XB3 := Row10.keep hb XB2
  clear hb B2 XA2 XB2
  clear pB0 pB1 pB2 pB3 pB4 pB5 pB6 pB7 pB8 pB9
  go_wp2_with (go_at_call 12; ((with_reducible refine (told6_true _ (tb_on HT.out B3.out)).mono ?_); rintro e w99 ⟨rfl, hb⟩))
  go_ret
  exact ⟨rfl, btr B3.out hb⟩
set_option maxRecDepth 100000 in
set_option maxHeartbeats 8000000 in
theorem order_told3 (kdA : Int) (gA : Bool) (x0A x1A x2A x3A bA : Int) (sA : ByteArray) (laA : Option Addr) (nA lcA : Nat) (kaA : Option Addr) (mA kcA : Nat) (kdB : Int) (gB : Bool) (x0B x1B x2B x3B bB : Int) (sB : ByteArray) (laB : Option Addr) (nB lcB : Nat) (kaB : Option Addr) (mB kcB : Nat) (w : World) (hT : Tb w) (q : Bool) (z : Int) (hz : (z != 0) = true)
    (k1 : ∀ W, Below w.heap.size w W → Calls Tryz.prog 11 #[V10 kdA gA x0A x1A x2A x3A bA sA laA nA lcA kaA mA kcA] W fun e w' => e = .returned (.bool true) ∧ Below W.heap.size W w')
    (k2 : ∀ W, Below w.heap.size w W → Calls Tryz.prog 11 #[V10 kdB gB x0B x1B x2B x3B bB sB laB nB lcB kaB mB kcB] W fun e w' => e = .returned (.bool true) ∧ Below W.heap.size W w')
    (k3 : ∀ W, Below w.heap.size w W → Calls Tryz.prog 21 #[V10 kdA gA x0A x1A x2A x3A bA sA laA nA lcA kaA mA kcA, V10 kdB gB x0B x1B x2B x3B bB sB laB nB lcB kaB mB kcB] W fun e w' => e = .returned (.bool q) ∧ Below W.heap.size W w')
    (k4 : ∀ W, Below w.heap.size w W → Calls Tryz.prog 10 #[V10 kdA gA x0A x1A x2A x3A bA sA laA nA lcA kaA mA kcA, V10 kdB gB x0B x1B x2B x3B bB sB laB nB lcB kaB mB kcB] W fun e w' => e = .returned (.bool q) ∧ Below W.heap.size W w')
    (k5 : ∀ W, Below w.heap.size w W → Calls Tryz.prog 21 #[V10 kdA gA x0A x1A x2A x3A bA sA laA nA lcA kaA mA kcA, V10 kdA gA x0A x1A x2A x3A bA sA laA nA lcA kaA mA kcA] W fun e w' => e = .returned (.bool true) ∧ Below W.heap.size W w')
    (k6 : ∀ W, Below w.heap.size w W → Calls Tryz.prog 16 #[V10 kdA gA x0A x1A x2A x3A bA sA laA nA lcA kaA mA kcA] W fun e w' => e = .returned (.int .i64 z) ∧ Below W.heap.size W w') :
    Calls Tryz.prog 5 #[V10 kdA gA x0A x1A x2A x3A bA sA laA nA lcA kaA mA kcA, V10 kdB gB x0B x1B x2B x3B bB sB laB nB lcB kaB mB kcB] w fun e w' => e = .returned (.bool true) ∧ Below w.heap.size w w' := by
  have HT := Lib.hid hT
  have K1 := Lib.hid k1; have K2 := Lib.hid k2; have K3 := Lib.hid k3; have K4 := Lib.hid k4; have K5 := Lib.hid k5; have K6 := Lib.hid k6
  clear hT k1 k2 k3 k4 k5 k6
  cases q
  all_goals
    go_enter Tryz.func5, Tryz.ntmps5
    go_upto_region 1 with (fail)
    go_name_world w1 hw1
    have B1 := Lib.hid (show Below w.heap.size w w1 from by rw [← hw1]; repeat (first | (with_reducible exact Below.refl _ _) | (with_reducible refine bal ?_ _) | (with_reducible refine Below.drew ?_) | (with_reducible refine bdn ?_ _)))
    have XA1 : Row10 w1 w.heap.size (.int .i64 kdA) (.bool gA) (.int .u64 x0A) (.int .u64 x1A) (.int .u64 x2A) (.int .u64 x3A) (.int .u64 bA) (.string sA) (.slice laA nA lcA) (.slice kaA mA kcA) := by rw [← hw1]; exact Row10.alloc (Row10.new _ _ _ _ _ _ _ _ _ _ _) _
    have XB1 : Row10 w1 (w.heap.size + 1) (.int .i64 kdB) (.bool gB) (.int .u64 x0B) (.int .u64 x1B) (.int .u64 x2B) (.int .u64 x3B) (.int .u64 bB) (.string sB) (.slice laB nB lcB) (.slice kaB mB kcB) := by rw [← hw1]; exact row10_new2 _ _ _ _ _ _ _ _ _ _ _ _
    clear hw1
    obtain ⟨pA0, pA1, pA2, pA3, pA4, pA5, pA6, pA7, pA8, pA9⟩ := XA1.parts
    go_wp2_with fail
    ((with_reducible refine (K1.out _ B1.out).mono ?_); rintro e w2 ⟨rfl, hb⟩)
    have B2 := Lib.hid (btr B1.out hb); have XA2 := Row10.keep hb XA1; have XB2 := Row10.keep hb XB1
    clear hb B1 XA1 XB1
    clear pA0 pA1 pA2 pA3 pA4 pA5 pA6 pA7 pA8 pA9
    obtain ⟨pB0, pB1, pB2, pB3, pB4, pB5, pB6, pB7, pB8, pB9⟩ := XB2.parts
    go_wp2_with fail
    ((with_reducible refine (K2.out _ B2.out).mono ?_); rintro e w3 ⟨rfl, hb⟩)
    have B3 := Lib.hid (btr B2.out hb); have XA3 := Row10.keep hb XA2; have XB3 := Row10.keep hb XB2
    clear hb B2 XA2 XB2
    clear pB0 pB1 pB2 pB3 pB4 pB5 pB6 pB7 pB8 pB9
    obtain ⟨pA0, pA1, pA2, pA3, pA4, pA5, pA6, pA7, pA8, pA9⟩ := XA3.parts
    obtain ⟨pB0, pB1, pB2, pB3, pB4, pB5, pB6, pB7, pB8, pB9⟩ := XB3.parts
    go_upto_region 3 with (fail)
    have rA0 := cell_regrown pA0; have rA1 := cell_regrown pA1; have rA2 := cell_regrown pA2; have rA3 := cell_regrown pA3; have rA4 := cell_regrown pA4; have rA5 := cell_regrown pA5; have rA6 := cell_regrown pA6; have rA7 := cell_regrown pA7; have rA8 := cell_regrown pA8; have rA9 := cell_regrown pA9
    have rB0 := cell_regrown pB0; have rB1 := cell_regrown pB1; have rB2 := cell_regrown pB2; have rB3 := cell_regrown pB3; have rB4 := cell_regrown pB4; have rB5 := cell_regrown pB5; have rB6 := cell_regrown pB6; have rB7 := cell_regrown pB7; have rB8 := cell_regrown pB8; have rB9 := cell_regrown pB9
    clear pA0 pA1 pA2 pA3 pA4 pA5 pA6 pA7 pA8 pA9 pB0 pB1 pB2 pB3 pB4 pB5 pB6 pB7 pB8 pB9
    have cq0 := fun (d : Nat) (os : Array Obj) => Calls.regrown_of (w := w3) (d := d) (os := os) (K3.out _ (btr B3.out (below_regrown w3 d os)))
    have cq1 := fun (d : Nat) (os : Array Obj) => Calls.regrown_of (w := w3) (d := d) (os := os) (K4.out _ (btr B3.out (below_regrown w3 d os)))
    have cq2 := fun (d : Nat) (os : Array Obj) => Calls.regrown_of (w := w3) (d := d) (os := os) (K5.out _ (btr B3.out (below_regrown w3 d os)))
    refine wp_region_quiet_below (by kernel_rfl) (by kernel_rfl) ?_
    repeat (first | go_big_quiet_step ((first | with_reducible exact cq0 _ _ | with_reducible exact cq1 _ _ | with_reducible exact cq2 _ _)) | quiet_step (first | with_reducible exact cq0 _ _ | with_reducible exact cq1 _ _ | with_reducible exact cq2 _ _))
    refine wpQuiet_nil ?_
    intro _ hw'
    obtain ⟨⟨dq, osq⟩, hw''⟩ := hw'
    subst hw''
    clear rA0 rA1 rA2 rA3 rA4 rA5 rA6 rA7 rA8 rA9 rB0 rB1 rB2 rB3 rB4 rB5 rB6 rB7 rB8 rB9 cq0 cq1 cq2
    have hb := below_regrown w3 dq osq
    generalize grow (redrawn w3 dq) osq = w4 at *
    have B4 := Lib.hid (btr B3.out hb)
    have XA4 := Row10.keep hb XA3; have XB4 := Row10.keep hb XB3
    clear hb B3 XA3 XB3
    obtain ⟨pA0, pA1, pA2, pA3, pA4, pA5, pA6, pA7, pA8, pA9⟩ := XA4.parts
    go_wp2_with fail
    ((with_reducible refine (K6.out _ B4.out).mono ?_); rintro e w5 ⟨rfl, hb⟩)
    have B5 := Lib.hid (btr B4.out hb); have XA5 := Row10.keep hb XA4; have XB5 := Row10.keep hb XB4
    clear hb B4 XA4 XB4
    clear pA0 pA1 pA2 pA3 pA4 pA5 pA6 pA7 pA8 pA9
    go_wp2_with (go_at_call 12; ((with_reducible refine (told6_true _ (tb_on HT.out B5.out)).mono ?_); rintro e w99 ⟨rfl, hb⟩))
    go_ret
    exact ⟨rfl, btr B5.out hb⟩
set_option maxRecDepth 100000 in
set_option maxHeartbeats 8000000 in
theorem order_told4 (kdA : Int) (gA : Bool) (x0A x1A x2A x3A bA : Int) (sA : ByteArray) (laA : Option Addr) (nA lcA : Nat) (kaA : Option Addr) (mA kcA : Nat) (kdB : Int) (gB : Bool) (x0B x1B x2B x3B bB : Int) (sB : ByteArray) (laB : Option Addr) (nB lcB : Nat) (kaB : Option Addr) (mB kcB : Nat) (w : World) (hT : Tb w) (q : Bool) (z : Int) (hz : (z != 0) = true)
    (k1 : ∀ W, Below w.heap.size w W → Calls Tryz.prog 11 #[V10 kdA gA x0A x1A x2A x3A bA sA laA nA lcA kaA mA kcA] W fun e w' => e = .returned (.bool true) ∧ Below W.heap.size W w')
    (k2 : ∀ W, Below w.heap.size w W → Calls Tryz.prog 11 #[V10 kdB gB x0B x1B x2B x3B bB sB laB nB lcB kaB mB kcB] W fun e w' => e = .returned (.bool true) ∧ Below W.heap.size W w')
    (k3 : ∀ W, Below w.heap.size w W → Calls Tryz.prog 21 #[V10 kdA gA x0A x1A x2A x3A bA sA laA nA lcA kaA mA kcA, V10 kdB gB x0B x1B x2B x3B bB sB laB nB lcB kaB mB kcB] W fun e w' => e = .returned (.bool q) ∧ Below W.heap.size W w')
    (k4 : ∀ W, Below w.heap.size w W → Calls Tryz.prog 10 #[V10 kdA gA x0A x1A x2A x3A bA sA laA nA lcA kaA mA kcA, V10 kdB gB x0B x1B x2B x3B bB sB laB nB lcB kaB mB kcB] W fun e w' => e = .returned (.bool q) ∧ Below W.heap.size W w')
    (k5 : ∀ W, Below w.heap.size w W → Calls Tryz.prog 21 #[V10 kdA gA x0A x1A x2A x3A bA sA laA nA lcA kaA mA kcA, V10 kdA gA x0A x1A x2A x3A bA sA laA nA lcA kaA mA kcA] W fun e w' => e = .returned (.bool true) ∧ Below W.heap.size W w')
    (k6 : ∀ W, Below w.heap.size w W → Calls Tryz.prog 16 #[V10 kdA gA x0A x1A x2A x3A bA sA laA nA lcA kaA mA kcA] W fun e w' => e = .returned (.int .i64 0) ∧ Below W.heap.size W w')
    (k7 : ∀ W, Below w.heap.size w W → Calls Tryz.prog 16 #[V10 kdB gB x0B x1B x2B x3B bB sB laB nB lcB kaB mB kcB] W fun e w' => e = .returned (.int .i64 z) ∧ Below W.heap.size W w') :
    Calls Tryz.prog 5 #[V10 kdA gA x0A x1A x2A x3A bA sA laA nA lcA kaA mA kcA, V10 kdB gB x0B x1B x2B x3B bB sB laB nB lcB kaB mB kcB] w fun e w' => e = .returned (.bool true) ∧ Below w.heap.size w w' := by
  have HT := Lib.hid hT
  have K1 := Lib.hid k1; have K2 := Lib.hid k2; have K3 := Lib.hid k3; have K4 := Lib.hid k4; have K5 := Lib.hid k5; have K6 := Lib.hid k6; have K7 := Lib.hid k7
  clear hT k1 k2 k3 k4 k5 k6 k7
  cases q
  all_goals
    go_enter Tryz.func5, Tryz.ntmps5
    go_upto_region 1 with (fail)
    go_name_world w1 hw1
    have B1 := Lib.hid (show Below w.heap.size w w1 from by rw [← hw1]; repeat (first | (with_reducible exact Below.refl _ _) | (with_reducible refine bal ?_ _) | (with_reducible refine Below.drew ?_) | (with_reducible refine bdn ?_ _)))
    have XA1 : Row10 w1 w.heap.size (.int .i64 kdA) (.bool gA) (.int .u64 x0A) (.int .u64 x1A) (.int .u64 x2A) (.int .u64 x3A) (.int .u64 bA) (.string sA) (.slice laA nA lcA) (.slice kaA mA kcA) := by rw [← hw1]; exact Row10.alloc (Row10.new _ _ _ _ _ _ _ _ _ _ _) _
    have XB1 : Row10 w1 (w.heap.size + 1) (.int .i64 kdB) (.bool gB) (.int .u64 x0B) (.int .u64 x1B) (.int .u64 x2B) (.int .u64 x3B) (.int .u64 bB) (.string sB) (.slice laB nB lcB) (.slice kaB mB kcB) := by rw [← hw1]; exact row10_new2 _ _ _ _ _ _ _ _ _ _ _ _
    clear hw1
    obtain ⟨pA0, pA1, pA2, pA3, pA4, pA5, pA6, pA7, pA8, pA9⟩ := XA1.parts
    go_wp2_with fail
    ((with_reducible refine (K1.out _ B1.out).mono ?_); rintro e w2 ⟨rfl, hb⟩)
    have B2 := Lib.hid (btr B1.out hb); have XA2 := Row10.keep hb XA1; have XB2 := Row10.keep hb XB1
    clear hb B1 XA1 XB1
    clear pA0 pA1 pA2 pA3 pA4 pA5 pA6 pA7 pA8 pA9
    obtain ⟨pB0, pB1, pB2, pB3, pB4, pB5, pB6, pB7, pB8, pB9⟩ := XB2.parts
    go_wp2_with fail
    ((with_reducible refine (K2.out _ B2.out).mono ?_); rintro e w3 ⟨rfl, hb⟩)
    have B3 := Lib.hid (btr B2.out hb); have XA3 := Row10.keep hb XA2; have XB3 := Row10.keep hb XB2
    clear hb B2 XA2 XB2
    clear pB0 pB1 pB2 pB3 pB4 pB5 pB6 pB7 pB8 pB9
    obtain ⟨pA0, pA1, pA2, pA3, pA4, pA5, pA6, pA7, pA8, pA9⟩ := XA3.parts
    obtain ⟨pB0, pB1, pB2, pB3, pB4, pB5, pB6, pB7, pB8, pB9⟩ := XB3.parts
    go_upto_region 3 with (fail)
    have rA0 := cell_regrown pA0; have rA1 := cell_regrown pA1; have rA2 := cell_regrown pA2; have rA3 := cell_regrown pA3; have rA4 := cell_regrown pA4; have rA5 := cell_regrown pA5; have rA6 := cell_regrown pA6; have rA7 := cell_regrown pA7; have rA8 := cell_regrown pA8; have rA9 := cell_regrown pA9
    have rB0 := cell_regrown pB0; have rB1 := cell_regrown pB1; have rB2 := cell_regrown pB2; have rB3 := cell_regrown pB3; have rB4 := cell_regrown pB4; have rB5 := cell_regrown pB5; have rB6 := cell_regrown pB6; have rB7 := cell_regrown pB7; have rB8 := cell_regrown pB8; have rB9 := cell_regrown pB9
    clear pA0 pA1 pA2 pA3 pA4 pA5 pA6 pA7 pA8 pA9 pB0 pB1 pB2 pB3 pB4 pB5 pB6 pB7 pB8 pB9
    have cq0 := fun (d : Nat) (os : Array Obj) => Calls.regrown_of (w := w3) (d := d) (os := os) (K3.out _ (btr B3.out (below_regrown w3 d os)))
    have cq1 := fun (d : Nat) (os : Array Obj) => Calls.regrown_of (w := w3) (d := d) (os := os) (K4.out _ (btr B3.out (below_regrown w3 d os)))
    have cq2 := fun (d : Nat) (os : Array Obj) => Calls.regrown_of (w := w3) (d := d) (os := os) (K5.out _ (btr B3.out (below_regrown w3 d os)))
    refine wp_region_quiet_below (by kernel_rfl) (by kernel_rfl) ?_
    repeat (first | go_big_quiet_step ((first | with_reducible exact cq0 _ _ | with_reducible exact cq1 _ _ | with_reducible exact cq2 _ _)) | quiet_step (first | with_reducible exact cq0 _ _ | with_reducible exact cq1 _ _ | with_reducible exact cq2 _ _))
    refine wpQuiet_nil ?_
    intro _ hw'
    obtain ⟨⟨dq, osq⟩, hw''⟩ := hw'
    subst hw''
    clear rA0 rA1 rA2 rA3 rA4 rA5 rA6 rA7 rA8 rA9 rB0 rB1 rB2 rB3 rB4 rB5 rB6 rB7 rB8 rB9 cq0 cq1 cq2
    have hb := below_regrown w3 dq osq
    generalize grow (redrawn w3 dq) osq = w4 at *
    have B4 := Lib.hid (btr B3.out hb)
    have XA4 := Row10.keep hb XA3; have XB4 := Row10.keep hb XB3
    clear hb B3 XA3 XB3
    obtain ⟨pA0, pA1, pA2, pA3, pA4, pA5, pA6, pA7, pA8, pA9⟩ := XA4.parts
    go_wp2_with fail
    ((with_reducible refine (K6.out _ B4.out).mono ?_); rintro e w5 ⟨rfl, hb⟩)
    have B5 := Lib.hid (btr B4.out hb); have XA5 := Row10.keep hb XA4; have XB5 := Row10.keep hb XB4
    clear hb B4 XA4 XB4
    clear pA0 pA1 pA2 pA3 pA4 pA5 pA6 pA7 pA8 pA9
    obtain ⟨pB0, pB1, pB2, pB3, pB4, pB5, pB6, pB7, pB8, pB9⟩ := XB5.parts
    go_wp2_with fail
    ((with_reducible refine (K7.out _ B5.out).mono ?_); rintro e w6 ⟨rfl, hb⟩)
    have B6 := Lib.hid (btr B5.out hb); have XA6 := Row10.keep hb XA5; have XB6 := Row10.keep hb XB5
    clear hb B5 XA5 XB5
    clear pB0 pB1 pB2 pB3 pB4 pB5 pB6 pB7 pB8 pB9
    go_wp2_with (go_at_call 12; ((with_reducible refine (told6_true _ (tb_on HT.out B6.out)).mono ?_); rintro e w99 ⟨rfl, hb⟩))
    go_ret
    exact ⟨rfl, btr B6.out hb⟩
set_option maxRecDepth 100000 in
set_option maxHeartbeats 8000000 in
theorem order_core (kdA : Int) (gA : Bool) (x0A x1A x2A x3A bA : Int) (sA : ByteArray) (laA : Option Addr) (nA lcA : Nat) (kaA : Option Addr) (mA kcA : Nat) (kdB : Int) (gB : Bool) (x0B x1B x2B x3B bB : Int) (sB : ByteArray) (laB : Option Addr) (nB lcB : Nat) (kaB : Option Addr) (mB kcB : Nat) (w : World) (hT : Tb w) (q : Bool) (z : Int)
    (k1 : ∀ W, Below w.heap.size w W → Calls Tryz.prog 11 #[V10 kdA gA x0A x1A x2A x3A bA sA laA nA lcA kaA mA kcA] W fun e w' => e = .returned (.bool true) ∧ Below W.heap.size W w')
    (k2 : ∀ W, Below w.heap.size w W → Calls Tryz.prog 11 #[V10 kdB gB x0B x1B x2B x3B bB sB laB nB lcB kaB mB kcB] W fun e w' => e = .returned (.bool true) ∧ Below W.heap.size W w')
    (k3 : ∀ W, Below w.heap.size w W → Calls Tryz.prog 21 #[V10 kdA gA x0A x1A x2A x3A bA sA laA nA lcA kaA mA kcA, V10 kdB gB x0B x1B x2B x3B bB sB laB nB lcB kaB mB kcB] W fun e w' => e = .returned (.bool q) ∧ Below W.heap.size W w')
    (k4 : ∀ W, Below w.heap.size w W → Calls Tryz.prog 10 #[V10 kdA gA x0A x1A x2A x3A bA sA laA nA lcA kaA mA kcA, V10 kdB gB x0B x1B x2B x3B bB sB laB nB lcB kaB mB kcB] W fun e w' => e = .returned (.bool q) ∧ Below W.heap.size W w')
    (k5 : ∀ W, Below w.heap.size w W → Calls Tryz.prog 21 #[V10 kdA gA x0A x1A x2A x3A bA sA laA nA lcA kaA mA kcA, V10 kdA gA x0A x1A x2A x3A bA sA laA nA lcA kaA mA kcA] W fun e w' => e = .returned (.bool true) ∧ Below W.heap.size W w')
    (k6 : ∀ W, Below w.heap.size w W → Calls Tryz.prog 16 #[V10 kdA gA x0A x1A x2A x3A bA sA laA nA lcA kaA mA kcA] W fun e w' => e = .returned (.int .i64 0) ∧ Below W.heap.size W w')
    (k7 : ∀ W, Below w.heap.size w W → Calls Tryz.prog 16 #[V10 kdB gB x0B x1B x2B x3B bB sB laB nB lcB kaB mB kcB] W fun e w' => e = .returned (.int .i64 0) ∧ Below W.heap.size W w')
    (k8 : ∀ W, Below w.heap.size w W → Calls Tryz.prog 22 #[V10 kdA gA x0A x1A x2A x3A bA sA laA nA lcA kaA mA kcA, V10 kdB gB x0B x1B x2B x3B bB sB laB nB lcB kaB mB kcB] W fun e w' => e = .returned (.int .i64 z) ∧ Below W.heap.size W w')
    (k9 : ∀ W, Below w.heap.size w W → Calls Tryz.prog 23 #[V10 kdA gA x0A x1A x2A x3A bA sA laA nA lcA kaA mA kcA, V10 kdB gB x0B x1B x2B x3B bB sB laB nB lcB kaB mB kcB] W fun e w' => e = .returned (.int .i64 z) ∧ Below W.heap.size W w') :
    Calls Tryz.prog 5 #[V10 kdA gA x0A x1A x2A x3A bA sA laA nA lcA kaA mA kcA, V10 kdB gB x0B x1B x2B x3B bB sB laB nB lcB kaB mB kcB] w fun e w' => e = .returned (.bool true) ∧ Below w.heap.size w w' := by
  have HT := Lib.hid hT
  have K1 := Lib.hid k1; have K2 := Lib.hid k2; have K3 := Lib.hid k3; have K4 := Lib.hid k4; have K5 := Lib.hid k5; have K6 := Lib.hid k6; have K7 := Lib.hid k7; have K8 := Lib.hid k8; have K9 := Lib.hid k9
  clear hT k1 k2 k3 k4 k5 k6 k7 k8 k9
  cases q
  all_goals
    go_enter Tryz.func5, Tryz.ntmps5
    go_upto_region 1 with (fail)
    go_name_world w1 hw1
    have B1 := Lib.hid (show Below w.heap.size w w1 from by rw [← hw1]; repeat (first | (with_reducible exact Below.refl _ _) | (with_reducible refine bal ?_ _) | (with_reducible refine Below.drew ?_) | (with_reducible refine bdn ?_ _)))
    have XA1 : Row10 w1 w.heap.size (.int .i64 kdA) (.bool gA) (.int .u64 x0A) (.int .u64 x1A) (.int .u64 x2A) (.int .u64 x3A) (.int .u64 bA) (.string sA) (.slice laA nA lcA) (.slice kaA mA kcA) := by rw [← hw1]; exact Row10.alloc (Row10.new _ _ _ _ _ _ _ _ _ _ _) _
    have XB1 : Row10 w1 (w.heap.size + 1) (.int .i64 kdB) (.bool gB) (.int .u64 x0B) (.int .u64 x1B) (.int .u64 x2B) (.int .u64 x3B) (.int .u64 bB) (.string sB) (.slice laB nB lcB) (.slice kaB mB kcB) := by rw [← hw1]; exact row10_new2 _ _ _ _ _ _ _ _ _ _ _ _
    clear hw1
    obtain ⟨pA0, pA1, pA2, pA3, pA4, pA5, pA6, pA7, pA8, pA9⟩ := XA1.parts
    go_wp2_with fail
    ((with_reducible refine (K1.out _ B1.out).mono ?_); rintro e w2 ⟨rfl, hb⟩)
    have B2 := Lib.hid (btr B1.out hb); have XA2 := Row10.keep hb XA1; have XB2 := Row10.keep hb XB1
    clear hb B1 XA1 XB1
    clear pA0 pA1 pA2 pA3 pA4 pA5 pA6 pA7 pA8 pA9
    obtain ⟨pB0, pB1, pB2, pB3, pB4, pB5, pB6, pB7, pB8, pB9⟩ := XB2.parts
    go_wp2_with fail
    ((with_reducible refine (K2.out _ B2.out).mono ?_); rintro e w3 ⟨rfl, hb⟩)
    have B3 := Lib.hid (btr B2.out hb); have XA3 := Row10.keep hb XA2; have XB3 := Row10.keep hb XB2
    clear hb B2 XA2 XB2
    clear pB0 pB1 pB2 pB3 pB4 pB5 pB6 pB7 pB8 pB9
    obtain ⟨pA0, pA1, pA2, pA3, pA4, pA5, pA6, pA7, pA8, pA9⟩ := XA3.parts
    obtain ⟨pB0, pB1, pB2, pB3, pB4, pB5, pB6, pB7, pB8, pB9⟩ := XB3.parts
    go_upto_region 3 with (fail)
    have rA0 := cell_regrown pA0; have rA1 := cell_regrown pA1; have rA2 := cell_regrown pA2; have rA3 := cell_regrown pA3; have rA4 := cell_regrown pA4; have rA5 := cell_regrown pA5; have rA6 := cell_regrown pA6; have rA7 := cell_regrown pA7; have rA8 := cell_regrown pA8; have rA9 := cell_regrown pA9
    have rB0 := cell_regrown pB0; have rB1 := cell_regrown pB1; have rB2 := cell_regrown pB2; have rB3 := cell_regrown pB3; have rB4 := cell_regrown pB4; have rB5 := cell_regrown pB5; have rB6 := cell_regrown pB6; have rB7 := cell_regrown pB7; have rB8 := cell_regrown pB8; have rB9 := cell_regrown pB9
    clear pA0 pA1 pA2 pA3 pA4 pA5 pA6 pA7 pA8 pA9 pB0 pB1 pB2 pB3 pB4 pB5 pB6 pB7 pB8 pB9
    have cq0 := fun (d : Nat) (os : Array Obj) => Calls.regrown_of (w := w3) (d := d) (os := os) (K3.out _ (btr B3.out (below_regrown w3 d os)))
    have cq1 := fun (d : Nat) (os : Array Obj) => Calls.regrown_of (w := w3) (d := d) (os := os) (K4.out _ (btr B3.out (below_regrown w3 d os)))
    have cq2 := fun (d : Nat) (os : Array Obj) => Calls.regrown_of (w := w3) (d := d) (os := os) (K5.out _ (btr B3.out (below_regrown w3 d os)))
    refine wp_region_quiet_below (by kernel_rfl) (by kernel_rfl) ?_
    repeat (first | go_big_quiet_step ((first | with_reducible exact cq0 _ _ | with_reducible exact cq1 _ _ | with_reducible exact cq2 _ _)) | quiet_step (first | with_reducible exact cq0 _ _ | with_reducible exact cq1 _ _ | with_reducible exact cq2 _ _))
    refine wpQuiet_nil ?_
    intro _ hw'
    obtain ⟨⟨dq, osq⟩, hw''⟩ := hw'
    subst hw''
    clear rA0 rA1 rA2 rA3 rA4 rA5 rA6 rA7 rA8 rA9 rB0 rB1 rB2 rB3 rB4 rB5 rB6 rB7 rB8 rB9 cq0 cq1 cq2
    have hb := below_regrown w3 dq osq
    generalize grow (redrawn w3 dq) osq = w4 at *
    have B4 := Lib.hid (btr B3.out hb)
    have XA4 := Row10.keep hb XA3; have XB4 := Row10.keep hb XB3
    clear hb B3 XA3 XB3
    obtain ⟨pA0, pA1, pA2, pA3, pA4, pA5, pA6, pA7, pA8, pA9⟩ := XA4.parts
    go_wp2_with fail
    ((with_reducible refine (K6.out _ B4.out).mono ?_); rintro e w5 ⟨rfl, hb⟩)
    have B5 := Lib.hid (btr B4.out hb); have XA5 := Row10.keep hb XA4; have XB5 := Row10.keep hb XB4
    clear hb B4 XA4 XB4
    clear pA0 pA1 pA2 pA3 pA4 pA5 pA6 pA7 pA8 pA9
    obtain ⟨pB0, pB1, pB2, pB3, pB4, pB5, pB6, pB7, pB8, pB9⟩ := XB5.parts
    go_wp2_with fail
    ((with_reducible refine (K7.out _ B5.out).mono ?_); rintro e w6 ⟨rfl, hb⟩)
    have B6 := Lib.hid (btr B5.out hb); have XA6 := Row10.keep hb XA5; have XB6 := Row10.keep hb XB5
    clear hb B5 XA5 XB5
    clear pB0 pB1 pB2 pB3 pB4 pB5 pB6 pB7 pB8 pB9
    obtain ⟨pA0, pA1, pA2, pA3, pA4, pA5, pA6, pA7, pA8, pA9⟩ := XA6.parts
    obtain ⟨pB0, pB1, pB2, pB3, pB4, pB5, pB6, pB7, pB8, pB9⟩ := XB6.parts
    go_upto_region 7 with (fail)
    have rA0 := cell_regrown pA0; have rA1 := cell_regrown pA1; have rA2 := cell_regrown pA2; have rA3 := cell_regrown pA3; have rA4 := cell_regrown pA4; have rA5 := cell_regrown pA5; have rA6 := cell_regrown pA6; have rA7 := cell_regrown pA7; have rA8 := cell_regrown pA8; have rA9 := cell_regrown pA9
    have rB0 := cell_regrown pB0; have rB1 := cell_regrown pB1; have rB2 := cell_regrown pB2; have rB3 := cell_regrown pB3; have rB4 := cell_regrown pB4; have rB5 := cell_regrown pB5; have rB6 := cell_regrown pB6; have rB7 := cell_regrown pB7; have rB8 := cell_regrown pB8; have rB9 := cell_regrown pB9
    clear pA0 pA1 pA2 pA3 pA4 pA5 pA6 pA7 pA8 pA9 pB0 pB1 pB2 pB3 pB4 pB5 pB6 pB7 pB8 pB9
    have cq0 := fun (d : Nat) (os : Array Obj) => Calls.regrown_of (w := w6) (d := d) (os := os) (told6_true _ (tb_on HT.out (btr B6.out (below_regrown w6 d os))))
    have cq1 := fun (d : Nat) (os : Array Obj) => Calls.regrown_of (w := w6) (d := d) (os := os) (K8.out _ (btr B6.out (below_regrown w6 d os)))
    have cq2 := fun (d : Nat) (os : Array Obj) => Calls.regrown_of (w := w6) (d := d) (os := os) (K9.out _ (btr B6.out (below_regrown w6 d os)))
    refine wp_region_quiet_below (by kernel_rfl) (by kernel_rfl) ?_
    repeat (first | go_big_quiet_step ((first | with_reducible exact cq0 _ _ | with_reducible exact cq1 _ _ | with_reducible exact cq2 _ _)) | quiet_step (first | with_reducible exact cq0 _ _ | with_reducible exact cq1 _ _ | with_reducible exact cq2 _ _))
    refine wpQuiet_nil ?_
    intro _ hw'
    obtain ⟨⟨dq, osq⟩, hw''⟩ := hw'
    subst hw''
    clear rA0 rA1 rA2 rA3 rA4 rA5 rA6 rA7 rA8 rA9 rB0 rB1 rB2 rB3 rB4 rB5 rB6 rB7 rB8 rB9 cq0 cq1 cq2
    have hb := below_regrown w6 dq osq
    generalize grow (redrawn w6 dq) osq = w7 at *
    have B7 := Lib.hid (btr B6.out hb)
    clear hb B6 XA6 XB6
    go_wp2
    go_ret
    exact ⟨rfl, B7.out⟩

theorem sameT_self : ∀ (T : VT), sameT T T = true := by
  intro T
  induction T using VT.ind with
  | h o l ih =>
    rw [sameT]
    simp only [VT.o_mk, VT.kids_mk]
    have e1 : keysEq o.keys o.keys = true := by
      rw [keys_zero _ _ rfl]
      have h := code_ks o.keys o.keys [] [] rfl
      rw [lexc_self] at h
      have h1 : lexc ([] : List Int) [] = 0 := rfl
      rw [h1] at h
      refine decide_eq_true ?_
      unfold ord at h
      split at h
      · assumption
      · exact h.symm
    have e2 : ∀ (a us : List VT), a = us → (∀ t ∈ a, sameT t t = true) → kidsEq (a.map fun k => sameT k) us = true := by
      rintro a _ rfl h
      unfold kidsEq
      rw [List.length_map, decide_eq_true rfl, Bool.true_and, List.zip_map_left, List.all_eq_true]
      intro p hp
      obtain ⟨q, hq, rfl⟩ := List.mem_map.1 hp
      have hz : ∀ (b : List VT) (q : VT × VT), q ∈ b.zip b → q.1 = q.2 ∧ q.1 ∈ b := by
        intro b
        induction b with
        | nil => intro q h; simp at h
        | cons c b ihb =>
          intro q h
          rw [List.zip_cons_cons] at h
          rcases List.mem_cons.1 h with rfl | h
          · exact ⟨rfl, by simp⟩
          · exact ⟨(ihb q h).1, by simp [(ihb q h).2]⟩
      obtain ⟨h1, h2⟩ := hz a q hq
      show sameT q.1 q.2 = true
      rw [← h1]; exact h q.1 h2
    rw [e1, e2 l l rfl ih, eqO_same]; rfl
theorem may_right6 {T : VT} (h : mayN T = 0) : hasT wrongT T = false := by
  unfold mayN at h
  by_cases h1 : 16 < T.depth
  · rw [if_pos h1] at h; cases h
  rw [if_neg h1] at h
  cases h2 : hasT overT T with
  | true => rw [h2, if_pos rfl] at h; cases h
  | false =>
    rw [h2, if_neg (by simp)] at h
    cases h3 : hasT wrongT T with
    | true => rw [h3, if_pos rfl] at h; cases h
    | false => rfl
theorem in_fine6 : ∀ (T : VT) (w : World), T.In w → T.Every fun o => o.x < 2 ^ 256 := by
  intro T
  induction T using VT.ind with
  | h o kids ih =>
    intro w h
    have hwf := h.wf
    obtain ⟨_, hx, _⟩ := hwf
    exact .mk o kids hx (fun t ht => ih t ht w (h.mem ht))
/-- The law, for any two values. -/
theorem order_any (A B : VT) (w : World) (hA : A.In w) (hB : B.In w) (hT : Tb w) :
    Calls Tryz.prog 5 #[A.val, B.val] w fun e w' => e = .returned (.bool true) ∧ Below w.heap.size w w' := by
  have k1 := fun W (hb : Below w.heap.size w W) => vfew A W (hA.keep hb)
  have k2 := fun W (hb : Below w.heap.size w W) => vfew B W (hB.keep hb)
  have v : ∀ T : VT, T.val = V10 T.o.kind T.o.g (lb 0 T.o.x) (lb 1 T.o.x) (lb 2 T.o.x) (lb 3 T.o.x) T.o.bits T.o.text T.o.la T.kids.length T.o.lcap T.o.ka T.o.keys.length T.o.kcap := fun T => by cases T; rfl
  cases ha : fewOk A with
  | false => rw [ha] at k1; rw [v, v] at *; exact order_told1 _ _ _ _ _ _ _ _ _ _ _ _ _ _ _ _ _ _ _ _ _ _ _ _ _ _ _ _ w hT k1
  | true =>
  rw [ha] at k1
  cases hb : fewOk B with
  | false => rw [hb] at k2; rw [v, v] at *; exact order_told2 _ _ _ _ _ _ _ _ _ _ _ _ _ _ _ _ _ _ _ _ _ _ _ _ _ _ _ _ w hT k1 k2
  | true =>
  rw [hb] at k2
  obtain ⟨qA, nA, dA, tA⟩ := few_all ha hA hT
  obtain ⟨qB, nB, dB, tB⟩ := few_all hb hB hT
  have k3 := fun W (hb : Below w.heap.size w W) => vsame A B W (hA.keep hb) (hB.keep hb)
  have k4 := fun W (hb : Below w.heap.size w W) => rsame A B W (hA.keep hb) (hB.keep hb)
  have k5 := fun W (hb : Below w.heap.size w W) => vsame A A W (hA.keep hb) (hA.keep hb)
  rw [sameT_self] at k5
  have k6 := fun W (hb : Below w.heap.size w W) => r6may_few A W (qA.keep hb) nA dA tA
  have k7 := fun W (hb : Below w.heap.size w W) => r6may_few B W (qB.keep hb) nB dB tB
  by_cases mA : mayN A = 0
  case neg => rw [v, v] at *; exact order_told3 _ _ _ _ _ _ _ _ _ _ _ _ _ _ _ _ _ _ _ _ _ _ _ _ _ _ _ _ w hT _ _ (bne_iff_ne.2 mA) k1 k2 k3 k4 k5 k6
  rw [mA] at k6
  by_cases mB : mayN B = 0
  case neg => rw [v, v] at *; exact order_told4 _ _ _ _ _ _ _ _ _ _ _ _ _ _ _ _ _ _ _ _ _ _ _ _ _ _ _ _ w hT _ _ (bne_iff_ne.2 mB) k1 k2 k3 k4 k5 k6 k7
  rw [mB] at k7
  have gA : Good A := ⟨may_right6 mA, in_fine6 A w hA⟩
  have gB : Good B := ⟨may_right6 mB, in_fine6 B w hB⟩
  have k8 := fun W (hb : Below w.heap.size w W) => vcmp A B W (hA.keep hb) (hB.keep hb)
  have k9 := fun W (hb : Below w.heap.size w W) => rcmp6 A B W (hA.keep hb) (hB.keep hb) gA gB
  rw [v, v] at *
  exact order_core _ _ _ _ _ _ _ _ _ _ _ _ _ _ _ _ _ _ _ _ _ _ _ _ _ _ _ _ w hT _ _ k1 k2 k3 k4 k5 k6 k7 k8 k9
end Go.Proofs.YtgklokjilfeklaaGreatDoor
