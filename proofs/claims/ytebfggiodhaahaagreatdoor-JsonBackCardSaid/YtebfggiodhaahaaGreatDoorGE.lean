/-
  WholeA WholeB WholeC WholeD WholeE WholeF WholeG WholeH, one behind the other: a claim holds at most 60 files.
-/
import Derived.Test.YtebfggiodhaahaaGreatDoorGA
import Derived.Lib.ItoaWalk
import Derived.Test.YtebfggiodhaahaaGreatDoorGL
import Derived.Lib.QuietBelow
import Derived.BigQuiet
section
namespace Go.Proofs.YtebfggiodhaahaaGreatDoor
open Go.RowKit Go.Shelf
attribute [local go_sem ↓] eql_nat neq_nat eql_int5 neq_int5

theorem may_core (g : Bool) (x0 x1 x2 x3 : Int) (w : World) :
    Calls Tryz.prog 50 #[.agg #[.bool g, .int .u64 x0, .int .u64 x1, .int .u64 x2, .int .u64 x3]] w fun e w' => e = .returned (.bool (!eq5 g x0 x1 x2 x3 true 0 0 0 0)) ∧ ∃ o : Obj, w' = w.alloc o := by
  go_enter Tryz.func50, Tryz.ntmps50
  go_wp2
  go_ret
  exact ⟨rfl, _, rfl⟩

theorem ofUint_any (v : Int) (w : World) :
    Calls Tryz.prog 142 #[.int .u64 v] w fun e w' => e = .returned (.agg #[.bool false, .int .u64 v, .int .u64 0, .int .u64 0, .int .u64 0]) ∧ Below w.heap.size w w' := by
  go_enter Tryz.func142, Tryz.ntmps142
  go_wp2_with fail
  refine (of_any _ _).mono ?_
  rintro e w1 ⟨rfl, hb⟩
  have R : Row5 w1 w.heap.size (.bool false) (.int .u64 0) (.int .u64 0) (.int .u64 0) (.int .u64 0) := Row5.keep hb (Row5.new w _ _ _ _ _)
  obtain ⟨c0, c1, c2, c3, c4⟩ := R.parts
  obtain ⟨f0, f1, f2, f3, f4⟩ := R.free
  have B := btr (bal (Below.refl _ w) _) hb
  clear hb R
  go_wp2
  exact bodyPost_ret (v := .agg #[.bool false, .int .u64 v, .int .u64 0, .int .u64 0, .int .u64 0]) (by simp [results, Tryz.results142, go_sem, c0, c1, c2, c3, c4]) rfl ⟨rfl, bsc5 B (by omega) _ _ _ _ _⟩

theorem of_plus (v : Int) (h0 : 0 ≤ v) (h1 : v < 9223372036854775808) (w : World) :
    Calls Tryz.prog 141 #[.int .i64 v] w fun e w' => e = .returned (.agg #[.bool false, .int .u64 v, .int .u64 0, .int .u64 0, .int .u64 0]) ∧ Below w.heap.size w w' := by
  go_enter Tryz.func141, Tryz.ntmps141
  go_wp2_with fail
  refine (ofUint_any _ _).mono ?_
  rintro e w1 ⟨rfl, hb⟩
  have R : Row5 w1 w.heap.size (.bool false) (.int .u64 0) (.int .u64 0) (.int .u64 0) (.int .u64 0) := Row5.keep hb (Row5.new w _ _ _ _ _)
  obtain ⟨c0, c1, c2, c3, c4⟩ := R.parts
  obtain ⟨f0, f1, f2, f3, f4⟩ := R.free
  have B := btr (bal (Below.refl _ w) _) hb
  clear hb R
  go_wp2
  exact bodyPost_ret (v := .agg #[.bool false, .int .u64 v, .int .u64 0, .int .u64 0, .int .u64 0]) (by simp [results, Tryz.results141, go_sem, c0, c1, c2, c3, c4]) rfl ⟨rfl, bsc5 B (by omega) _ _ _ _ _⟩
theorem of_minus (v : Int) (h0 : v < 0) (h1 : -9223372036854775808 ≤ v) (w : World) :
    Calls Tryz.prog 141 #[.int .i64 v] w fun e w' => e = .returned (.agg #[.bool true, .int .u64 (-v), .int .u64 0, .int .u64 0, .int .u64 0]) ∧ Below w.heap.size w w' := by
  have hv : IntKind.u64.wrap (-IntKind.u64.wrap v) = -v := by
    simp only [IntKind.wrap, IntKind.signed, IntKind.bits]
    simp
    omega
  have HV := Lib.hid hv; clear hv
  go_enter Tryz.func141, Tryz.ntmps141
  go_wp2_with fail
  rw [HV.out]
  refine (of_any _ _).mono ?_
  rintro e w1 ⟨rfl, hb⟩
  have R : Row5 w1 w.heap.size (.bool false) (.int .u64 0) (.int .u64 0) (.int .u64 0) (.int .u64 0) := Row5.keep hb (Row5.new w _ _ _ _ _)
  obtain ⟨c0, c1, c2, c3, c4⟩ := R.parts
  obtain ⟨f0, f1, f2, f3, f4⟩ := R.free
  have B := btr (bal (Below.refl _ w) _) hb
  clear hb R
  go_wp2
  exact bodyPost_ret (v := .agg #[.bool true, .int .u64 (-v), .int .u64 0, .int .u64 0, .int .u64 0]) (by simp [results, Tryz.results141, go_sem, c0, c1, c2, c3, c4]) rfl ⟨rfl, bsc5 B (by omega) _ _ _ _ _⟩

end Go.Proofs.YtebfggiodhaahaaGreatDoor
end
section
namespace Go.Proofs.YtebfggiodhaahaaGreatDoor
open Go.RowKit Go.Shelf
attribute [local go_sem ↓] eql_nat neq_nat eql_int5 neq_int5

end Go.Proofs.YtebfggiodhaahaaGreatDoor
end
section
namespace Go.Proofs.YtebfggiodhaahaaGreatDoor
open Go.RowKit Go.Shelf
attribute [local go_sem ↓] eql_nat neq_nat eql_int5 neq_int5

end Go.Proofs.YtebfggiodhaahaaGreatDoor
end
section
namespace Go.Proofs.YtebfggiodhaahaaGreatDoor
open Go.RowKit Go.Shelf
attribute [local go_sem ↓] eql_nat neq_nat eql_int5 neq_int5

set_option maxHeartbeats 1000000 in
set_option maxRecDepth 100000 in
theorem toint_pt (x0 x1 x2 x3 l v : Int) (lb : Bool) (h : Bool) (y0 y1 y2 y3 : Int) (hv : wrap64 l = v)
    (k1 : ∀ W, Calls Tryz.prog 140 #[.agg #[.int .u64 x0, .int .u64 x1, .int .u64 x2, .int .u64 x3]] W fun e w' => e = .returned (.tuple #[.int .u64 l, .bool lb]) ∧ Below W.heap.size W w')
    (k2 : ∀ W, Calls Tryz.prog 141 #[.int .i64 v] W fun e w' => e = .returned (.agg #[.bool h, .int .u64 y0, .int .u64 y1, .int .u64 y2, .int .u64 y3]) ∧ Below W.heap.size W w')
    (hq : eq5 h y0 y1 y2 y3 false x0 x1 x2 x3 = true) (w : World) :
    Calls Tryz.prog 98 #[.agg #[.bool false, .int .u64 x0, .int .u64 x1, .int .u64 x2, .int .u64 x3]] w fun e w' => e = .returned (.tuple #[.int .i64 v, .bool true]) ∧ Below w.heap.size w w' := by
  have K1 := Lib.hid k1; clear k1
  have K2 := Lib.hid k2; clear k2
  have HV := Lib.hid hv; clear hv
  have HQ := Lib.hid hq; clear hq
  go_enter Tryz.func98, Tryz.ntmps98
  go_wp2_with fail
  (with_reducible refine (K1.out _).mono ?_)
  rintro e w1 ⟨rfl, hb⟩
  have BW1 : Below w.heap.size w w1 := btr (by repeat (first | (with_reducible exact Below.refl _ _) | (with_reducible refine bal ?_ _) | (with_reducible refine Below.drew ?_) | (with_reducible refine bdn ?_ _))) hb
  have X1 : Row5 w1 w.heap.size (.bool false) (.int .u64 x0) (.int .u64 x1) (.int .u64 x2) (.int .u64 x3) := Row5.keep hb (by repeat (first | (with_reducible exact Row5.new _ _ _ _ _ _) | ((with_reducible refine Row5.new' _ ?_ _ _ _ _ _); (simp; done)) | (with_reducible refine Row5.alloc ?_ _) | (with_reducible refine Row5.drew ?_)))
  clear hb
  obtain ⟨Xc0, Xc1, Xc2, Xc3, Xc4⟩ := X1.parts
  obtain ⟨Xf0, Xf1, Xf2, Xf3, Xf4⟩ := X1.free
  go_upto_region 5 with (fail)
  go_name_world w2 hw2
  have BW2 : Below w.heap.size w w2 := by rw [← hw2]; repeat (first | (with_reducible exact BW1) | (with_reducible refine bal ?_ _) | (with_reducible refine Below.drew ?_) | (with_reducible refine bdn ?_ _))
  have X2 : Row5 w2 w.heap.size (.bool false) (.int .u64 x0) (.int .u64 x1) (.int .u64 x2) (.int .u64 x3) := by rw [← hw2]; exact (by repeat (first | (with_reducible exact X1) | (with_reducible refine Row5.alloc ?_ _) | (with_reducible refine Row5.drew ?_)))
  clear X1
  clear BW1
  clear hw2
  rw [HV.out]
  go_upto_region 5 with (fail)
  go_name_world w3 hw3
  have BW3 : Below w.heap.size w w3 := by rw [← hw3]; repeat (first | (with_reducible exact BW2) | (with_reducible refine bal ?_ _) | (with_reducible refine Below.drew ?_) | (with_reducible refine bdn ?_ _))
  have X3 : Row5 w3 w.heap.size (.bool false) (.int .u64 x0) (.int .u64 x1) (.int .u64 x2) (.int .u64 x3) := by rw [← hw3]; exact (by repeat (first | (with_reducible exact X2) | (with_reducible refine Row5.alloc ?_ _) | (with_reducible refine Row5.drew ?_)))
  clear X2
  clear BW2
  clear hw3
  have lt_X := X3.lt
  go_region_held3 (fun w' => w'.cell? ⟨w.heap.size, 0, none⟩ = some (.bool false) ∧ w'.cell? ⟨w.heap.size, 1, none⟩ = some (.int .u64 x0) ∧ w'.cell? ⟨w.heap.size, 2, none⟩ = some (.int .u64 x1) ∧ w'.cell? ⟨w.heap.size, 3, none⟩ = some (.int .u64 x2) ∧ w'.cell? ⟨w.heap.size, 4, none⟩ = some (.int .u64 x3))
    ((refine Row5.parts ?_; (repeat (first | (with_reducible assumption) | (with_reducible refine Row5.alloc ?_ _) | (with_reducible refine Row5.drew ?_))); done))
    (first | (go_at_call 141; (with_reducible refine (K2.out _).mono ?_); rintro e wf3_1 ⟨rfl, hb3_1⟩; have Xf1 : Row5 wf3_1 w.heap.size (.bool false) (.int .u64 x0) (.int .u64 x1) (.int .u64 x2) (.int .u64 x3) := Row5.keep hb3_1 (by repeat (first | (with_reducible assumption) | (with_reducible refine Row5.alloc ?_ _) | (with_reducible refine Row5.drew ?_)))))
  have BW4 : Below w.heap.size w wf3_1 := btr (by repeat (first | (with_reducible exact BW3) | (with_reducible refine bal ?_ _) | (with_reducible refine Below.drew ?_) | (with_reducible refine bdn ?_ _))) hb3_1
  have X4 : Row5 wf3_1 w.heap.size (.bool false) (.int .u64 x0) (.int .u64 x1) (.int .u64 x2) (.int .u64 x3) := Row5.keep hb3_1 (by repeat (first | (with_reducible exact X3) | (with_reducible refine Row5.alloc ?_ _) | (with_reducible refine Row5.drew ?_)))
  clear X3 Xf1 BW3 hb3_1
  have hq := HQ.out; clear HQ
  go_wp2
  all_goals first
    | (rename_i hh; rw [hq] at hh; simp at hh; done)
    | (go_ret2; exact ⟨rfl, by repeat (first | (with_reducible exact BW4) | (with_reducible refine bal ?_ _) | (with_reducible refine Below.drew ?_) | (with_reducible refine bdn ?_ _))⟩)

set_option maxHeartbeats 1000000 in
set_option maxRecDepth 100000 in
theorem toint_pf (x0 x1 x2 x3 l v : Int) (lb : Bool) (h : Bool) (y0 y1 y2 y3 : Int) (hv : wrap64 l = v)
    (k1 : ∀ W, Calls Tryz.prog 140 #[.agg #[.int .u64 x0, .int .u64 x1, .int .u64 x2, .int .u64 x3]] W fun e w' => e = .returned (.tuple #[.int .u64 l, .bool lb]) ∧ Below W.heap.size W w')
    (k2 : ∀ W, Calls Tryz.prog 141 #[.int .i64 v] W fun e w' => e = .returned (.agg #[.bool h, .int .u64 y0, .int .u64 y1, .int .u64 y2, .int .u64 y3]) ∧ Below W.heap.size W w')
    (hq : eq5 h y0 y1 y2 y3 false x0 x1 x2 x3 = false) (w : World) :
    Calls Tryz.prog 98 #[.agg #[.bool false, .int .u64 x0, .int .u64 x1, .int .u64 x2, .int .u64 x3]] w fun e w' => e = .returned (.tuple #[.int .i64 0, .bool false]) ∧ Below w.heap.size w w' := by
  have K1 := Lib.hid k1; clear k1
  have K2 := Lib.hid k2; clear k2
  have HV := Lib.hid hv; clear hv
  have HQ := Lib.hid hq; clear hq
  go_enter Tryz.func98, Tryz.ntmps98
  go_wp2_with fail
  (with_reducible refine (K1.out _).mono ?_)
  rintro e w1 ⟨rfl, hb⟩
  have BW1 : Below w.heap.size w w1 := btr (by repeat (first | (with_reducible exact Below.refl _ _) | (with_reducible refine bal ?_ _) | (with_reducible refine Below.drew ?_) | (with_reducible refine bdn ?_ _))) hb
  have X1 : Row5 w1 w.heap.size (.bool false) (.int .u64 x0) (.int .u64 x1) (.int .u64 x2) (.int .u64 x3) := Row5.keep hb (by repeat (first | (with_reducible exact Row5.new _ _ _ _ _ _) | ((with_reducible refine Row5.new' _ ?_ _ _ _ _ _); (simp; done)) | (with_reducible refine Row5.alloc ?_ _) | (with_reducible refine Row5.drew ?_)))
  clear hb
  obtain ⟨Xc0, Xc1, Xc2, Xc3, Xc4⟩ := X1.parts
  obtain ⟨Xf0, Xf1, Xf2, Xf3, Xf4⟩ := X1.free
  go_upto_region 5 with (fail)
  go_name_world w2 hw2
  have BW2 : Below w.heap.size w w2 := by rw [← hw2]; repeat (first | (with_reducible exact BW1) | (with_reducible refine bal ?_ _) | (with_reducible refine Below.drew ?_) | (with_reducible refine bdn ?_ _))
  have X2 : Row5 w2 w.heap.size (.bool false) (.int .u64 x0) (.int .u64 x1) (.int .u64 x2) (.int .u64 x3) := by rw [← hw2]; exact (by repeat (first | (with_reducible exact X1) | (with_reducible refine Row5.alloc ?_ _) | (with_reducible refine Row5.drew ?_)))
  clear X1
  clear BW1
  clear hw2
  rw [HV.out]
  go_upto_region 5 with (fail)
  go_name_world w3 hw3
  have BW3 : Below w.heap.size w w3 := by rw [← hw3]; repeat (first | (with_reducible exact BW2) | (with_reducible refine bal ?_ _) | (with_reducible refine Below.drew ?_) | (with_reducible refine bdn ?_ _))
  have X3 : Row5 w3 w.heap.size (.bool false) (.int .u64 x0) (.int .u64 x1) (.int .u64 x2) (.int .u64 x3) := by rw [← hw3]; exact (by repeat (first | (with_reducible exact X2) | (with_reducible refine Row5.alloc ?_ _) | (with_reducible refine Row5.drew ?_)))
  clear X2
  clear BW2
  clear hw3
  have lt_X := X3.lt
  go_region_held3 (fun w' => w'.cell? ⟨w.heap.size, 0, none⟩ = some (.bool false) ∧ w'.cell? ⟨w.heap.size, 1, none⟩ = some (.int .u64 x0) ∧ w'.cell? ⟨w.heap.size, 2, none⟩ = some (.int .u64 x1) ∧ w'.cell? ⟨w.heap.size, 3, none⟩ = some (.int .u64 x2) ∧ w'.cell? ⟨w.heap.size, 4, none⟩ = some (.int .u64 x3))
    ((refine Row5.parts ?_; (repeat (first | (with_reducible assumption) | (with_reducible refine Row5.alloc ?_ _) | (with_reducible refine Row5.drew ?_))); done))
    (first | (go_at_call 141; (with_reducible refine (K2.out _).mono ?_); rintro e wf3_1 ⟨rfl, hb3_1⟩; have Xf1 : Row5 wf3_1 w.heap.size (.bool false) (.int .u64 x0) (.int .u64 x1) (.int .u64 x2) (.int .u64 x3) := Row5.keep hb3_1 (by repeat (first | (with_reducible assumption) | (with_reducible refine Row5.alloc ?_ _) | (with_reducible refine Row5.drew ?_)))))
  have BW4 : Below w.heap.size w wf3_1 := btr (by repeat (first | (with_reducible exact BW3) | (with_reducible refine bal ?_ _) | (with_reducible refine Below.drew ?_) | (with_reducible refine bdn ?_ _))) hb3_1
  have X4 : Row5 wf3_1 w.heap.size (.bool false) (.int .u64 x0) (.int .u64 x1) (.int .u64 x2) (.int .u64 x3) := Row5.keep hb3_1 (by repeat (first | (with_reducible exact X3) | (with_reducible refine Row5.alloc ?_ _) | (with_reducible refine Row5.drew ?_)))
  clear X3 Xf1 BW3 hb3_1
  have hq := HQ.out; clear HQ
  go_wp2
  all_goals first
    | (rename_i hh; rw [hq] at hh; simp at hh; done)
    | (go_ret2; exact ⟨rfl, by repeat (first | (with_reducible exact BW4) | (with_reducible refine bal ?_ _) | (with_reducible refine Below.drew ?_) | (with_reducible refine bdn ?_ _))⟩)

set_option maxHeartbeats 1000000 in
set_option maxRecDepth 100000 in
theorem toint_nt (x0 x1 x2 x3 l v : Int) (lb : Bool) (h : Bool) (y0 y1 y2 y3 : Int) (hv : wrap64 (-wrap64 l) = v)
    (k1 : ∀ W, Calls Tryz.prog 140 #[.agg #[.int .u64 x0, .int .u64 x1, .int .u64 x2, .int .u64 x3]] W fun e w' => e = .returned (.tuple #[.int .u64 l, .bool lb]) ∧ Below W.heap.size W w')
    (k2 : ∀ W, Calls Tryz.prog 141 #[.int .i64 v] W fun e w' => e = .returned (.agg #[.bool h, .int .u64 y0, .int .u64 y1, .int .u64 y2, .int .u64 y3]) ∧ Below W.heap.size W w')
    (hq : eq5 h y0 y1 y2 y3 true x0 x1 x2 x3 = true) (w : World) :
    Calls Tryz.prog 98 #[.agg #[.bool true, .int .u64 x0, .int .u64 x1, .int .u64 x2, .int .u64 x3]] w fun e w' => e = .returned (.tuple #[.int .i64 v, .bool true]) ∧ Below w.heap.size w w' := by
  have K1 := Lib.hid k1; clear k1
  have K2 := Lib.hid k2; clear k2
  have HV := Lib.hid hv; clear hv
  have HQ := Lib.hid hq; clear hq
  go_enter Tryz.func98, Tryz.ntmps98
  go_wp2_with fail
  (with_reducible refine (K1.out _).mono ?_)
  rintro e w1 ⟨rfl, hb⟩
  have BW1 : Below w.heap.size w w1 := btr (by repeat (first | (with_reducible exact Below.refl _ _) | (with_reducible refine bal ?_ _) | (with_reducible refine Below.drew ?_) | (with_reducible refine bdn ?_ _))) hb
  have X1 : Row5 w1 w.heap.size (.bool true) (.int .u64 x0) (.int .u64 x1) (.int .u64 x2) (.int .u64 x3) := Row5.keep hb (by repeat (first | (with_reducible exact Row5.new _ _ _ _ _ _) | ((with_reducible refine Row5.new' _ ?_ _ _ _ _ _); (simp; done)) | (with_reducible refine Row5.alloc ?_ _) | (with_reducible refine Row5.drew ?_)))
  clear hb
  obtain ⟨Xc0, Xc1, Xc2, Xc3, Xc4⟩ := X1.parts
  obtain ⟨Xf0, Xf1, Xf2, Xf3, Xf4⟩ := X1.free
  go_upto_region 5 with (fail)
  go_name_world w2 hw2
  have BW2 : Below w.heap.size w w2 := by rw [← hw2]; repeat (first | (with_reducible exact BW1) | (with_reducible refine bal ?_ _) | (with_reducible refine Below.drew ?_) | (with_reducible refine bdn ?_ _))
  have X2 : Row5 w2 w.heap.size (.bool true) (.int .u64 x0) (.int .u64 x1) (.int .u64 x2) (.int .u64 x3) := by rw [← hw2]; exact (by repeat (first | (with_reducible exact X1) | (with_reducible refine Row5.alloc ?_ _) | (with_reducible refine Row5.drew ?_)))
  clear X1
  clear BW1
  clear hw2
  rw [HV.out]
  go_upto_region 5 with (fail)
  go_name_world w3 hw3
  have BW3 : Below w.heap.size w w3 := by rw [← hw3]; repeat (first | (with_reducible exact BW2) | (with_reducible refine bal ?_ _) | (with_reducible refine Below.drew ?_) | (with_reducible refine bdn ?_ _))
  have X3 : Row5 w3 w.heap.size (.bool true) (.int .u64 x0) (.int .u64 x1) (.int .u64 x2) (.int .u64 x3) := by rw [← hw3]; exact (by repeat (first | (with_reducible exact X2) | (with_reducible refine Row5.alloc ?_ _) | (with_reducible refine Row5.drew ?_)))
  clear X2
  clear BW2
  clear hw3
  have lt_X := X3.lt
  go_region_held3 (fun w' => w'.cell? ⟨w.heap.size, 0, none⟩ = some (.bool true) ∧ w'.cell? ⟨w.heap.size, 1, none⟩ = some (.int .u64 x0) ∧ w'.cell? ⟨w.heap.size, 2, none⟩ = some (.int .u64 x1) ∧ w'.cell? ⟨w.heap.size, 3, none⟩ = some (.int .u64 x2) ∧ w'.cell? ⟨w.heap.size, 4, none⟩ = some (.int .u64 x3))
    ((refine Row5.parts ?_; (repeat (first | (with_reducible assumption) | (with_reducible refine Row5.alloc ?_ _) | (with_reducible refine Row5.drew ?_))); done))
    (first | (go_at_call 141; (with_reducible refine (K2.out _).mono ?_); rintro e wf3_1 ⟨rfl, hb3_1⟩; have Xf1 : Row5 wf3_1 w.heap.size (.bool true) (.int .u64 x0) (.int .u64 x1) (.int .u64 x2) (.int .u64 x3) := Row5.keep hb3_1 (by repeat (first | (with_reducible assumption) | (with_reducible refine Row5.alloc ?_ _) | (with_reducible refine Row5.drew ?_)))))
  have BW4 : Below w.heap.size w wf3_1 := btr (by repeat (first | (with_reducible exact BW3) | (with_reducible refine bal ?_ _) | (with_reducible refine Below.drew ?_) | (with_reducible refine bdn ?_ _))) hb3_1
  have X4 : Row5 wf3_1 w.heap.size (.bool true) (.int .u64 x0) (.int .u64 x1) (.int .u64 x2) (.int .u64 x3) := Row5.keep hb3_1 (by repeat (first | (with_reducible exact X3) | (with_reducible refine Row5.alloc ?_ _) | (with_reducible refine Row5.drew ?_)))
  clear X3 Xf1 BW3 hb3_1
  have hq := HQ.out; clear HQ
  go_wp2
  all_goals first
    | (rename_i hh; rw [hq] at hh; simp at hh; done)
    | (go_ret2; exact ⟨rfl, by repeat (first | (with_reducible exact BW4) | (with_reducible refine bal ?_ _) | (with_reducible refine Below.drew ?_) | (with_reducible refine bdn ?_ _))⟩)

set_option maxHeartbeats 1000000 in
set_option maxRecDepth 100000 in
theorem toint_nf (x0 x1 x2 x3 l v : Int) (lb : Bool) (h : Bool) (y0 y1 y2 y3 : Int) (hv : wrap64 (-wrap64 l) = v)
    (k1 : ∀ W, Calls Tryz.prog 140 #[.agg #[.int .u64 x0, .int .u64 x1, .int .u64 x2, .int .u64 x3]] W fun e w' => e = .returned (.tuple #[.int .u64 l, .bool lb]) ∧ Below W.heap.size W w')
    (k2 : ∀ W, Calls Tryz.prog 141 #[.int .i64 v] W fun e w' => e = .returned (.agg #[.bool h, .int .u64 y0, .int .u64 y1, .int .u64 y2, .int .u64 y3]) ∧ Below W.heap.size W w')
    (hq : eq5 h y0 y1 y2 y3 true x0 x1 x2 x3 = false) (w : World) :
    Calls Tryz.prog 98 #[.agg #[.bool true, .int .u64 x0, .int .u64 x1, .int .u64 x2, .int .u64 x3]] w fun e w' => e = .returned (.tuple #[.int .i64 0, .bool false]) ∧ Below w.heap.size w w' := by
  have K1 := Lib.hid k1; clear k1
  have K2 := Lib.hid k2; clear k2
  have HV := Lib.hid hv; clear hv
  have HQ := Lib.hid hq; clear hq
  go_enter Tryz.func98, Tryz.ntmps98
  go_wp2_with fail
  (with_reducible refine (K1.out _).mono ?_)
  rintro e w1 ⟨rfl, hb⟩
  have BW1 : Below w.heap.size w w1 := btr (by repeat (first | (with_reducible exact Below.refl _ _) | (with_reducible refine bal ?_ _) | (with_reducible refine Below.drew ?_) | (with_reducible refine bdn ?_ _))) hb
  have X1 : Row5 w1 w.heap.size (.bool true) (.int .u64 x0) (.int .u64 x1) (.int .u64 x2) (.int .u64 x3) := Row5.keep hb (by repeat (first | (with_reducible exact Row5.new _ _ _ _ _ _) | ((with_reducible refine Row5.new' _ ?_ _ _ _ _ _); (simp; done)) | (with_reducible refine Row5.alloc ?_ _) | (with_reducible refine Row5.drew ?_)))
  clear hb
  obtain ⟨Xc0, Xc1, Xc2, Xc3, Xc4⟩ := X1.parts
  obtain ⟨Xf0, Xf1, Xf2, Xf3, Xf4⟩ := X1.free
  go_upto_region 5 with (fail)
  go_name_world w2 hw2
  have BW2 : Below w.heap.size w w2 := by rw [← hw2]; repeat (first | (with_reducible exact BW1) | (with_reducible refine bal ?_ _) | (with_reducible refine Below.drew ?_) | (with_reducible refine bdn ?_ _))
  have X2 : Row5 w2 w.heap.size (.bool true) (.int .u64 x0) (.int .u64 x1) (.int .u64 x2) (.int .u64 x3) := by rw [← hw2]; exact (by repeat (first | (with_reducible exact X1) | (with_reducible refine Row5.alloc ?_ _) | (with_reducible refine Row5.drew ?_)))
  clear X1
  clear BW1
  clear hw2
  rw [HV.out]
  go_upto_region 5 with (fail)
  go_name_world w3 hw3
  have BW3 : Below w.heap.size w w3 := by rw [← hw3]; repeat (first | (with_reducible exact BW2) | (with_reducible refine bal ?_ _) | (with_reducible refine Below.drew ?_) | (with_reducible refine bdn ?_ _))
  have X3 : Row5 w3 w.heap.size (.bool true) (.int .u64 x0) (.int .u64 x1) (.int .u64 x2) (.int .u64 x3) := by rw [← hw3]; exact (by repeat (first | (with_reducible exact X2) | (with_reducible refine Row5.alloc ?_ _) | (with_reducible refine Row5.drew ?_)))
  clear X2
  clear BW2
  clear hw3
  have lt_X := X3.lt
  go_region_held3 (fun w' => w'.cell? ⟨w.heap.size, 0, none⟩ = some (.bool true) ∧ w'.cell? ⟨w.heap.size, 1, none⟩ = some (.int .u64 x0) ∧ w'.cell? ⟨w.heap.size, 2, none⟩ = some (.int .u64 x1) ∧ w'.cell? ⟨w.heap.size, 3, none⟩ = some (.int .u64 x2) ∧ w'.cell? ⟨w.heap.size, 4, none⟩ = some (.int .u64 x3))
    ((refine Row5.parts ?_; (repeat (first | (with_reducible assumption) | (with_reducible refine Row5.alloc ?_ _) | (with_reducible refine Row5.drew ?_))); done))
    (first | (go_at_call 141; (with_reducible refine (K2.out _).mono ?_); rintro e wf3_1 ⟨rfl, hb3_1⟩; have Xf1 : Row5 wf3_1 w.heap.size (.bool true) (.int .u64 x0) (.int .u64 x1) (.int .u64 x2) (.int .u64 x3) := Row5.keep hb3_1 (by repeat (first | (with_reducible assumption) | (with_reducible refine Row5.alloc ?_ _) | (with_reducible refine Row5.drew ?_)))))
  have BW4 : Below w.heap.size w wf3_1 := btr (by repeat (first | (with_reducible exact BW3) | (with_reducible refine bal ?_ _) | (with_reducible refine Below.drew ?_) | (with_reducible refine bdn ?_ _))) hb3_1
  have X4 : Row5 wf3_1 w.heap.size (.bool true) (.int .u64 x0) (.int .u64 x1) (.int .u64 x2) (.int .u64 x3) := Row5.keep hb3_1 (by repeat (first | (with_reducible exact X3) | (with_reducible refine Row5.alloc ?_ _) | (with_reducible refine Row5.drew ?_)))
  clear X3 Xf1 BW3 hb3_1
  have hq := HQ.out; clear HQ
  go_wp2
  all_goals first
    | (rename_i hh; rw [hq] at hh; simp at hh; done)
    | (go_ret2; exact ⟨rfl, by repeat (first | (with_reducible exact BW4) | (with_reducible refine bal ?_ _) | (with_reducible refine Below.drew ?_) | (with_reducible refine bdn ?_ _))⟩)

set_option maxHeartbeats 1000000 in
set_option maxRecDepth 100000 in
theorem touint_t (g : Bool) (x0 x1 x2 x3 l : Int) (lb : Bool) (h : Bool) (y0 y1 y2 y3 : Int)
    (k1 : ∀ W, Calls Tryz.prog 140 #[.agg #[.int .u64 x0, .int .u64 x1, .int .u64 x2, .int .u64 x3]] W fun e w' => e = .returned (.tuple #[.int .u64 l, .bool lb]) ∧ Below W.heap.size W w')
    (k2 : ∀ W, Calls Tryz.prog 142 #[.int .u64 l] W fun e w' => e = .returned (.agg #[.bool h, .int .u64 y0, .int .u64 y1, .int .u64 y2, .int .u64 y3]) ∧ Below W.heap.size W w')
    (hq : eq5 h y0 y1 y2 y3 g x0 x1 x2 x3 = true) (w : World) :
    Calls Tryz.prog 99 #[.agg #[.bool g, .int .u64 x0, .int .u64 x1, .int .u64 x2, .int .u64 x3]] w fun e w' => e = .returned (.tuple #[.int .u64 l, .bool true]) ∧ Below w.heap.size w w' := by
  have K1 := Lib.hid k1; clear k1
  have K2 := Lib.hid k2; clear k2
  have HQ := Lib.hid hq; clear hq
  go_enter Tryz.func99, Tryz.ntmps99
  go_wp2_with fail
  (with_reducible refine (K1.out _).mono ?_)
  rintro e w1 ⟨rfl, hb⟩
  have BW1 : Below w.heap.size w w1 := btr (by repeat (first | (with_reducible exact Below.refl _ _) | (with_reducible refine bal ?_ _) | (with_reducible refine Below.drew ?_) | (with_reducible refine bdn ?_ _))) hb
  have X1 : Row5 w1 w.heap.size (.bool g) (.int .u64 x0) (.int .u64 x1) (.int .u64 x2) (.int .u64 x3) := Row5.keep hb (by repeat (first | (with_reducible exact Row5.new _ _ _ _ _ _) | ((with_reducible refine Row5.new' _ ?_ _ _ _ _ _); (simp; done)) | (with_reducible refine Row5.alloc ?_ _) | (with_reducible refine Row5.drew ?_)))
  clear hb
  go_upto_region 2 with (fail)
  go_name_world w2 hw2
  have BW2 : Below w.heap.size w w2 := by rw [← hw2]; repeat (first | (with_reducible exact BW1) | (with_reducible refine bal ?_ _) | (with_reducible refine Below.drew ?_) | (with_reducible refine bdn ?_ _))
  have X2 : Row5 w2 w.heap.size (.bool g) (.int .u64 x0) (.int .u64 x1) (.int .u64 x2) (.int .u64 x3) := by rw [← hw2]; exact (by repeat (first | (with_reducible exact X1) | (with_reducible refine Row5.alloc ?_ _) | (with_reducible refine Row5.drew ?_)))
  clear X1
  clear BW1
  clear hw2
  have lt_X := X2.lt
  go_region_held3 (fun w' => w'.cell? ⟨w.heap.size, 0, none⟩ = some (.bool g) ∧ w'.cell? ⟨w.heap.size, 1, none⟩ = some (.int .u64 x0) ∧ w'.cell? ⟨w.heap.size, 2, none⟩ = some (.int .u64 x1) ∧ w'.cell? ⟨w.heap.size, 3, none⟩ = some (.int .u64 x2) ∧ w'.cell? ⟨w.heap.size, 4, none⟩ = some (.int .u64 x3))
    ((refine Row5.parts ?_; (repeat (first | (with_reducible assumption) | (with_reducible refine Row5.alloc ?_ _) | (with_reducible refine Row5.drew ?_))); done))
    (first | (go_at_call 142; (with_reducible refine (K2.out _).mono ?_); rintro e wf2_1 ⟨rfl, hb2_1⟩; have Xf1 : Row5 wf2_1 w.heap.size (.bool g) (.int .u64 x0) (.int .u64 x1) (.int .u64 x2) (.int .u64 x3) := Row5.keep hb2_1 (by repeat (first | (with_reducible assumption) | (with_reducible refine Row5.alloc ?_ _) | (with_reducible refine Row5.drew ?_)))))
  have BW3 : Below w.heap.size w wf2_1 := btr (by repeat (first | (with_reducible exact BW2) | (with_reducible refine bal ?_ _) | (with_reducible refine Below.drew ?_) | (with_reducible refine bdn ?_ _))) hb2_1
  have X3 : Row5 wf2_1 w.heap.size (.bool g) (.int .u64 x0) (.int .u64 x1) (.int .u64 x2) (.int .u64 x3) := Row5.keep hb2_1 (by repeat (first | (with_reducible exact X2) | (with_reducible refine Row5.alloc ?_ _) | (with_reducible refine Row5.drew ?_)))
  clear X2 Xf1 BW2 hb2_1
  have hq := HQ.out; clear HQ
  go_wp2
  all_goals first
    | (rename_i hh; rw [hq] at hh; simp at hh; done)
    | (go_ret2; exact ⟨rfl, by repeat (first | (with_reducible exact BW3) | (with_reducible refine bal ?_ _) | (with_reducible refine Below.drew ?_) | (with_reducible refine bdn ?_ _))⟩)

set_option maxHeartbeats 1000000 in
set_option maxRecDepth 100000 in
theorem touint_f (g : Bool) (x0 x1 x2 x3 l : Int) (lb : Bool) (h : Bool) (y0 y1 y2 y3 : Int)
    (k1 : ∀ W, Calls Tryz.prog 140 #[.agg #[.int .u64 x0, .int .u64 x1, .int .u64 x2, .int .u64 x3]] W fun e w' => e = .returned (.tuple #[.int .u64 l, .bool lb]) ∧ Below W.heap.size W w')
    (k2 : ∀ W, Calls Tryz.prog 142 #[.int .u64 l] W fun e w' => e = .returned (.agg #[.bool h, .int .u64 y0, .int .u64 y1, .int .u64 y2, .int .u64 y3]) ∧ Below W.heap.size W w')
    (hq : eq5 h y0 y1 y2 y3 g x0 x1 x2 x3 = false) (w : World) :
    Calls Tryz.prog 99 #[.agg #[.bool g, .int .u64 x0, .int .u64 x1, .int .u64 x2, .int .u64 x3]] w fun e w' => e = .returned (.tuple #[.int .u64 0, .bool false]) ∧ Below w.heap.size w w' := by
  have K1 := Lib.hid k1; clear k1
  have K2 := Lib.hid k2; clear k2
  have HQ := Lib.hid hq; clear hq
  go_enter Tryz.func99, Tryz.ntmps99
  go_wp2_with fail
  (with_reducible refine (K1.out _).mono ?_)
  rintro e w1 ⟨rfl, hb⟩
  have BW1 : Below w.heap.size w w1 := btr (by repeat (first | (with_reducible exact Below.refl _ _) | (with_reducible refine bal ?_ _) | (with_reducible refine Below.drew ?_) | (with_reducible refine bdn ?_ _))) hb
  have X1 : Row5 w1 w.heap.size (.bool g) (.int .u64 x0) (.int .u64 x1) (.int .u64 x2) (.int .u64 x3) := Row5.keep hb (by repeat (first | (with_reducible exact Row5.new _ _ _ _ _ _) | ((with_reducible refine Row5.new' _ ?_ _ _ _ _ _); (simp; done)) | (with_reducible refine Row5.alloc ?_ _) | (with_reducible refine Row5.drew ?_)))
  clear hb
  go_upto_region 2 with (fail)
  go_name_world w2 hw2
  have BW2 : Below w.heap.size w w2 := by rw [← hw2]; repeat (first | (with_reducible exact BW1) | (with_reducible refine bal ?_ _) | (with_reducible refine Below.drew ?_) | (with_reducible refine bdn ?_ _))
  have X2 : Row5 w2 w.heap.size (.bool g) (.int .u64 x0) (.int .u64 x1) (.int .u64 x2) (.int .u64 x3) := by rw [← hw2]; exact (by repeat (first | (with_reducible exact X1) | (with_reducible refine Row5.alloc ?_ _) | (with_reducible refine Row5.drew ?_)))
  clear X1
  clear BW1
  clear hw2
  have lt_X := X2.lt
  go_region_held3 (fun w' => w'.cell? ⟨w.heap.size, 0, none⟩ = some (.bool g) ∧ w'.cell? ⟨w.heap.size, 1, none⟩ = some (.int .u64 x0) ∧ w'.cell? ⟨w.heap.size, 2, none⟩ = some (.int .u64 x1) ∧ w'.cell? ⟨w.heap.size, 3, none⟩ = some (.int .u64 x2) ∧ w'.cell? ⟨w.heap.size, 4, none⟩ = some (.int .u64 x3))
    ((refine Row5.parts ?_; (repeat (first | (with_reducible assumption) | (with_reducible refine Row5.alloc ?_ _) | (with_reducible refine Row5.drew ?_))); done))
    (first | (go_at_call 142; (with_reducible refine (K2.out _).mono ?_); rintro e wf2_1 ⟨rfl, hb2_1⟩; have Xf1 : Row5 wf2_1 w.heap.size (.bool g) (.int .u64 x0) (.int .u64 x1) (.int .u64 x2) (.int .u64 x3) := Row5.keep hb2_1 (by repeat (first | (with_reducible assumption) | (with_reducible refine Row5.alloc ?_ _) | (with_reducible refine Row5.drew ?_)))))
  have BW3 : Below w.heap.size w wf2_1 := btr (by repeat (first | (with_reducible exact BW2) | (with_reducible refine bal ?_ _) | (with_reducible refine Below.drew ?_) | (with_reducible refine bdn ?_ _))) hb2_1
  have X3 : Row5 wf2_1 w.heap.size (.bool g) (.int .u64 x0) (.int .u64 x1) (.int .u64 x2) (.int .u64 x3) := Row5.keep hb2_1 (by repeat (first | (with_reducible exact X2) | (with_reducible refine Row5.alloc ?_ _) | (with_reducible refine Row5.drew ?_)))
  clear X2 Xf1 BW2 hb2_1
  have hq := HQ.out; clear HQ
  go_wp2
  all_goals first
    | (rename_i hh; rw [hq] at hh; simp at hh; done)
    | (go_ret2; exact ⟨rfl, by repeat (first | (with_reducible exact BW3) | (with_reducible refine bal ?_ _) | (with_reducible refine Below.drew ?_) | (with_reducible refine bdn ?_ _))⟩)

end Go.Proofs.YtebfggiodhaahaaGreatDoor
end
section
namespace Go.Proofs.YtebfggiodhaahaaGreatDoor
open Go.RowKit Go.Shelf

/-- An integer's value. -/
abbrev Iz (z : Int) : Value := I5 (decide (z < 0)) z.natAbs
theorem Iz_nat (n : Nat) : Iz (n : Int) = I5 false n := by
  unfold Iz
  rw [show decide ((n : Int) < 0) = false from decide_eq_false (by omega), Int.natAbs_natCast]
theorem Iz_neg {n : Nat} (h : n ≠ 0) : Iz (-(n : Int)) = I5 true n := by
  unfold Iz
  rw [show decide (-(n : Int) < 0) = true from decide_eq_true (by omega), Int.natAbs_neg, Int.natAbs_natCast]
theorem sgn (z : Int) : (∃ n : Nat, z = n) ∨ (∃ n : Nat, n ≠ 0 ∧ z = -(n : Int)) := by
  by_cases h : 0 ≤ z
  · exact .inl ⟨z.toNat, by omega⟩
  · exact .inr ⟨(-z).toNat, by omega, by omega⟩
theorem zq (x : Nat) (hx : x < 2 ^ 256) : eq4 (lb 0 x) (lb 1 x) (lb 2 x) (lb 3 x) 0 0 0 0 = decide (x = 0) := eq4_of x 0 hx (by decide)
theorem may_yes (z : Int) (hz : z.natAbs < 2 ^ 256) (w : World) : Calls Tryz.prog 50 #[Iz z] w fun e w' => e = .returned (.bool true) ∧ Below w.heap.size w w' := by
  refine (may_core _ _ _ _ _ w).mono ?_
  rintro e w' ⟨rfl, o, rfl⟩
  refine ⟨?_, bal (Below.refl _ _) _⟩
  unfold eq5
  rw [zq _ hz]
  congr 2
  by_cases h : z.natAbs = 0
  · have : ¬ z < 0 := by omega
    simp [this]
  · simp; omega
theorem may_no (w : World) : Calls Tryz.prog 50 #[I5 true 0] w fun e w' => e = .returned (.bool false) ∧ Below w.heap.size w w' := by
  refine (may_core _ _ _ _ _ w).mono ?_
  rintro e w' ⟨rfl, o, rfl⟩
  refine ⟨?_, bal (Below.refl _ _) _⟩
  unfold eq5
  rw [zq 0 (by decide)]
  rfl
theorem lb_small {v : Int} (h0 : 0 ≤ v) (h1 : v < 18446744073709551616) : lb 0 v.natAbs = v ∧ lb 1 v.natAbs = 0 ∧ lb 2 v.natAbs = 0 ∧ lb 3 v.natAbs = 0 := by
  rw [lb0, lb1, lb2, lb3]
  refine ⟨by omega, by omega, by omega, by omega⟩
theorem ofUint_z (v : Int) (h0 : 0 ≤ v) (h1 : v < 18446744073709551616) (w : World) : Calls Tryz.prog 142 #[.int .u64 v] w fun e w' => e = .returned (Iz v) ∧ Below w.heap.size w w' := by
  refine (ofUint_any v w).mono ?_
  rintro e w' ⟨rfl, hb⟩
  obtain ⟨l0, l1, l2, l3⟩ := lb_small h0 h1
  refine ⟨?_, hb⟩
  unfold Iz I5
  rw [l0, l1, l2, l3, show decide (v < 0) = false from decide_eq_false (by omega)]
theorem of_z (v : Int) (h0 : -9223372036854775808 ≤ v) (h1 : v < 9223372036854775808) (w : World) : Calls Tryz.prog 141 #[.int .i64 v] w fun e w' => e = .returned (Iz v) ∧ Below w.heap.size w w' := by
  by_cases h : 0 ≤ v
  · refine (of_plus v h h1 w).mono ?_
    rintro e w' ⟨rfl, hb⟩
    obtain ⟨l0, l1, l2, l3⟩ := lb_small h (by omega)
    refine ⟨?_, hb⟩
    unfold Iz I5
    rw [l0, l1, l2, l3, show decide (v < 0) = false from decide_eq_false (by omega)]
  · refine (of_minus v (by omega) h0 w).mono ?_
    rintro e w' ⟨rfl, hb⟩
    obtain ⟨l0, l1, l2, l3⟩ := lb_small (v := -v) (by omega) (by omega)
    rw [Int.natAbs_neg] at l0 l1 l2 l3
    refine ⟨?_, hb⟩
    unfold Iz I5
    rw [l0, l1, l2, l3, show decide (v < 0) = true from decide_eq_true (by omega)]

/-- A tuple of a whole number and whether there is one. -/
def Znum (z : Int) : Value := if z.natAbs < 2 ^ 256 then .tuple #[Iz z, .bool true] else .tuple #[Z5, .bool false]
theorem lbz : lb 0 0 = 0 ∧ lb 1 0 = 0 ∧ lb 2 0 = 0 ∧ lb 3 0 = 0 := ⟨lb_zero 0, lb_zero 1, lb_zero 2, lb_zero 3⟩
end Go.Proofs.YtebfggiodhaahaaGreatDoor
end
section
namespace Go.Proofs.YtebfggiodhaahaaGreatDoor
open Go.RowKit Go.Shelf

theorem Iz_zero : Iz 0 = Z5 := by
  obtain ⟨l0, l1, l2, l3⟩ := lbz
  show I5 (decide ((0 : Int) < 0)) 0 = Z5
  unfold I5
  rw [l0, l1, l2, l3]; rfl
/-- What is told of a number of 64 bits. -/
def Znt (k : IntKind) (z : Int) (b : Bool) : Value := if b then .tuple #[.int k z, .bool true] else .tuple #[.int k 0, .bool false]
theorem low_tuple (x : Nat) (hx : x < 2 ^ 256) (W : World) : Calls Tryz.prog 140 #[N4 x] W fun e w' => e = .returned (.tuple #[.int .u64 (if x < 18446744073709551616 then (x : Int) else 0), .bool (decide (x < 18446744073709551616))]) ∧ Below W.heap.size W w' := by
  refine (low_any x hx W).mono ?_
  rintro e w' ⟨rfl, hb⟩
  refine ⟨?_, hb⟩
  split <;> simp [*]
theorem eq5_Iz (y z : Int) (hy : y.natAbs < 2 ^ 256) (hz : z.natAbs < 2 ^ 256) : eq5 (decide (y < 0)) (lb 0 y.natAbs) (lb 1 y.natAbs) (lb 2 y.natAbs) (lb 3 y.natAbs) (decide (z < 0)) (lb 0 z.natAbs) (lb 1 z.natAbs) (lb 2 z.natAbs) (lb 3 z.natAbs) = decide (y = z) := by
  rw [eq5_int _ _ _ _ hy hz]
  by_cases h : y = z
  · subst h; simp
  · rw [decide_eq_false h]
    apply decide_eq_false
    rintro ⟨h1, h2⟩
    have : (y < 0) ↔ (z < 0) := by simpa using h1
    omega
theorem eq5_bad (y : Int) (hy : y.natAbs < 2 ^ 256) : eq5 (decide (y < 0)) (lb 0 y.natAbs) (lb 1 y.natAbs) (lb 2 y.natAbs) (lb 3 y.natAbs) true (lb 0 0) (lb 1 0) (lb 2 0) (lb 3 0) = false := by
  rw [eq5_int _ _ _ _ hy (by decide)]
  apply decide_eq_false
  rintro ⟨h1, h2⟩
  have : y < 0 := by simpa using h1
  omega
theorem toint_any (g : Bool) (x0 x1 x2 x3 l : Int) (v : Int) (lb : Bool) (h : Bool) (y0 y1 y2 y3 : Int) (hv : (if g then wrap64 (-wrap64 l) else wrap64 l) = v)
    (k1 : ∀ W, Calls Tryz.prog 140 #[.agg #[.int .u64 x0, .int .u64 x1, .int .u64 x2, .int .u64 x3]] W fun e w' => e = .returned (.tuple #[.int .u64 l, .bool lb]) ∧ Below W.heap.size W w')
    (k2 : ∀ W, Calls Tryz.prog 141 #[.int .i64 v] W fun e w' => e = .returned (.agg #[.bool h, .int .u64 y0, .int .u64 y1, .int .u64 y2, .int .u64 y3]) ∧ Below W.heap.size W w')
    (q : Bool) (hq : eq5 h y0 y1 y2 y3 g x0 x1 x2 x3 = q) (w : World) :
    Calls Tryz.prog 98 #[.agg #[.bool g, .int .u64 x0, .int .u64 x1, .int .u64 x2, .int .u64 x3]] w fun e w' => e = .returned (Znt .i64 v q) ∧ Below w.heap.size w w' := by
  cases g <;> cases q
  · exact toint_pf _ _ _ _ _ _ _ _ _ _ _ _ hv k1 k2 hq w
  · exact toint_pt _ _ _ _ _ _ _ _ _ _ _ _ hv k1 k2 hq w
  · exact toint_nf _ _ _ _ _ _ _ _ _ _ _ _ hv k1 k2 hq w
  · exact toint_nt _ _ _ _ _ _ _ _ _ _ _ _ hv k1 k2 hq w
theorem wrap64_bd (x : Int) : -9223372036854775808 ≤ wrap64 x ∧ wrap64 x < 9223372036854775808 := by unfold wrap64; omega
theorem toint_z (z : Int) (hz : z.natAbs < 2 ^ 256) (w : World) :
    Calls Tryz.prog 98 #[Iz z] w fun e w' => e = .returned (Znt .i64 z (decide (-9223372036854775808 ≤ z ∧ z < 9223372036854775808))) ∧ Below w.heap.size w w' := by
  have low := low_tuple z.natAbs hz
  generalize hl : (if z.natAbs < 18446744073709551616 then (z.natAbs : Int) else 0) = l at low
  have key := toint_any (decide (z < 0)) _ _ _ _ l _ _ _ _ _ _ _ rfl low (fun W => of_z _ (by split; exact (wrap64_bd _).1; exact (wrap64_bd _).1) (by split; exact (wrap64_bd _).2; exact (wrap64_bd _).2) W) _ (eq5_Iz _ z (by have := wrap64_bd (-wrap64 l); have := wrap64_bd l; split <;> omega) hz) w
  refine key.mono ?_
  rintro e w' ⟨rfl, hb⟩
  refine ⟨?_, hb⟩
  have hv : ∀ v, v = (if decide (z < 0) = true then wrap64 (-wrap64 l) else wrap64 l) → (v = z ↔ (-9223372036854775808 ≤ z ∧ z < 9223372036854775808)) := by
    intro v hv
    unfold wrap64 at hv
    by_cases hs : z.natAbs < 18446744073709551616
    · rw [if_pos hs] at hl
      by_cases h0 : z < 0
      · rw [if_pos (by simpa using h0)] at hv
        omega
      · rw [if_neg (by simpa using h0)] at hv
        omega
    · rw [if_neg hs] at hl
      subst hl
      have : v = 0 := by rw [hv]; split <;> rfl
      omega
  generalize (if decide (z < 0) = true then wrap64 (-wrap64 l) else wrap64 l) = v at hv ⊢
  have := hv v rfl
  by_cases h : -9223372036854775808 ≤ z ∧ z < 9223372036854775808
  · rw [decide_eq_true h, decide_eq_true (this.2 h), this.2 h]
  · rw [decide_eq_false h, decide_eq_false (fun e => h (this.1 e))]; rfl
theorem toint_bad (w : World) : Calls Tryz.prog 98 #[I5 true 0] w fun e w' => e = .returned (.tuple #[.int .i64 0, .bool false]) ∧ Below w.heap.size w w' := by
  have low := low_tuple 0 (by decide)
  exact toint_any true _ _ _ _ _ 0 _ _ _ _ _ _ (by unfold wrap64; simp) low (fun W => of_z 0 (by decide) (by decide) W) false (eq5_bad 0 (by decide)) w
theorem touint_any (g : Bool) (x0 x1 x2 x3 l : Int) (lb : Bool) (h : Bool) (y0 y1 y2 y3 : Int)
    (k1 : ∀ W, Calls Tryz.prog 140 #[.agg #[.int .u64 x0, .int .u64 x1, .int .u64 x2, .int .u64 x3]] W fun e w' => e = .returned (.tuple #[.int .u64 l, .bool lb]) ∧ Below W.heap.size W w')
    (k2 : ∀ W, Calls Tryz.prog 142 #[.int .u64 l] W fun e w' => e = .returned (.agg #[.bool h, .int .u64 y0, .int .u64 y1, .int .u64 y2, .int .u64 y3]) ∧ Below W.heap.size W w')
    (q : Bool) (hq : eq5 h y0 y1 y2 y3 g x0 x1 x2 x3 = q) (w : World) :
    Calls Tryz.prog 99 #[.agg #[.bool g, .int .u64 x0, .int .u64 x1, .int .u64 x2, .int .u64 x3]] w fun e w' => e = .returned (Znt .u64 l q) ∧ Below w.heap.size w w' := by
  cases q
  · exact touint_f _ _ _ _ _ _ _ _ _ _ _ _ k1 k2 hq w
  · exact touint_t _ _ _ _ _ _ _ _ _ _ _ _ k1 k2 hq w
theorem touint_z (z : Int) (hz : z.natAbs < 2 ^ 256) (w : World) :
    Calls Tryz.prog 99 #[Iz z] w fun e w' => e = .returned (Znt .u64 z (decide (0 ≤ z ∧ z < 18446744073709551616))) ∧ Below w.heap.size w w' := by
  have low := low_tuple z.natAbs hz
  generalize hl : (if z.natAbs < 18446744073709551616 then (z.natAbs : Int) else 0) = l at low
  have l0 : 0 ≤ l ∧ l < 18446744073709551616 := by split at hl <;> omega
  have key := touint_any (decide (z < 0)) _ _ _ _ l _ _ _ _ _ _ low (fun W => ofUint_z l l0.1 l0.2 W) _ (eq5_Iz l z (by omega) hz) w
  refine key.mono ?_
  rintro e w' ⟨rfl, hb⟩
  refine ⟨?_, hb⟩
  have : l = z ↔ (0 ≤ z ∧ z < 18446744073709551616) := by split at hl <;> omega
  by_cases h : 0 ≤ z ∧ z < 18446744073709551616
  · rw [decide_eq_true h, decide_eq_true (this.2 h), this.2 h]
  · rw [decide_eq_false h, decide_eq_false (fun e => h (this.1 e))]; rfl
theorem touint_bad (w : World) : Calls Tryz.prog 99 #[I5 true 0] w fun e w' => e = .returned (.tuple #[.int .u64 0, .bool false]) ∧ Below w.heap.size w w' := by
  have low := low_tuple 0 (by decide)
  exact touint_any true _ _ _ _ _ _ _ _ _ _ _ low (fun W => ofUint_z 0 (by decide) (by decide) W) false (eq5_bad 0 (by decide)) w
end Go.Proofs.YtebfggiodhaahaaGreatDoor
end
section
namespace Go.Proofs.YtebfggiodhaahaaGreatDoor
open Go.RowKit Go.Shelf
open Go.Sort (grow)
attribute [local go_sem ↓] eql_nat neq_nat eql_int5 neq_int5

set_option maxHeartbeats 1000000 in
set_option maxRecDepth 100000 in
theorem exact_no (g : Bool) (x0 x1 x2 x3 : Int)
    (m1 : ∀ W, Calls Tryz.prog 50 #[.agg #[.bool g, .int .u64 x0, .int .u64 x1, .int .u64 x2, .int .u64 x3]] W fun e w' => e = .returned (.bool false) ∧ Below W.heap.size W w') (w : World) :
    Calls Tryz.prog 100 #[.agg #[.bool g, .int .u64 x0, .int .u64 x1, .int .u64 x2, .int .u64 x3]] w fun e w' => e = .returned (.bool false) ∧ Below w.heap.size w w' := by
  have M1 := Lib.hid m1; clear m1
  go_enter Tryz.func100, Tryz.ntmps100
  go_upto_region 1 with (fail)
  go_name_world w1 hw1
  have BW1 : Below w.heap.size w w1 := by rw [← hw1]; repeat (first | (with_reducible exact Below.refl _ _) | (with_reducible refine bal ?_ _) | (with_reducible refine Below.drew ?_) | (with_reducible refine bdn ?_ _))
  have X1 : Row5 w1 w.heap.size (.bool g) (.int .u64 x0) (.int .u64 x1) (.int .u64 x2) (.int .u64 x3) := by rw [← hw1]; exact (by repeat (first | (with_reducible exact Row5.new _ _ _ _ _ _) | ((with_reducible refine Row5.new' _ ?_ _ _ _ _ _); (simp; done)) | (with_reducible refine Row5.alloc ?_ _) | (with_reducible refine Row5.drew ?_)))
  clear hw1
  obtain ⟨qX0, qX1, qX2, qX3, qX4⟩ := X1.parts
  have gX0 := cell_regrown qX0
  have gX1 := cell_regrown qX1
  have gX2 := cell_regrown qX2
  have gX3 := cell_regrown qX3
  have gX4 := cell_regrown qX4
  clear qX0 qX1 qX2 qX3 qX4
  have cq0 := fun (d : Nat) (os : Array Obj) => Calls.regrown_of (w := w1) (d := d) (os := os) (M1.out _)
  refine wp_region_quiet_below (by kernel_rfl) (by kernel_rfl) ?_
  repeat (first | go_big_quiet_step ((first | exact cq0 _ _)) | quiet_step (first | exact cq0 _ _))
  refine wpQuiet_nil ?_
  intro _ hw'
  obtain ⟨⟨dq, osq⟩, hw''⟩ := hw'
  subst hw''
  clear gX0 gX1 gX2 gX3 gX4 cq0
  have hb := below_regrown w1 dq osq
  generalize grow (redrawn w1 dq) osq = w2 at *
  have BW2 : Below w.heap.size w w2 := btr BW1 hb
  have X2 : Row5 w2 w.heap.size (.bool g) (.int .u64 x0) (.int .u64 x1) (.int .u64 x2) (.int .u64 x3) := Row5.keep hb X1
  clear X1 BW1 hb
  go_wp2
  go_ret
  exact ⟨rfl, by repeat (first | (with_reducible exact BW2) | (with_reducible refine bal ?_ _) | (with_reducible refine Below.drew ?_) | (with_reducible refine bdn ?_ _))⟩

set_option maxHeartbeats 1000000 in
set_option maxRecDepth 100000 in
theorem exact_yes (g : Bool) (x0 x1 x2 x3 : Int) (l t : Int) (q : Bool) (hq : decide (l - t ≤ 53) = q) (h0 : 0 ≤ l) (h1 : l ≤ 256) (h2 : 0 ≤ t) (h3 : t ≤ 256)
    (m1 : ∀ W, Calls Tryz.prog 50 #[.agg #[.bool g, .int .u64 x0, .int .u64 x1, .int .u64 x2, .int .u64 x3]] W fun e w' => e = .returned (.bool true) ∧ Below W.heap.size W w')
    (m2 : ∀ W, Calls Tryz.prog 143 #[.agg #[.int .u64 x0, .int .u64 x1, .int .u64 x2, .int .u64 x3]] W fun e w' => e = .returned (.int .i64 l) ∧ Below W.heap.size W w')
    (m3 : ∀ W, Tb W → Calls Tryz.prog 144 #[.agg #[.int .u64 x0, .int .u64 x1, .int .u64 x2, .int .u64 x3]] W fun e w' => e = .returned (.int .i64 t) ∧ Below W.heap.size W w') (w : World) (hT : Tb w) :
    Calls Tryz.prog 100 #[.agg #[.bool g, .int .u64 x0, .int .u64 x1, .int .u64 x2, .int .u64 x3]] w fun e w' => e = .returned (.bool q) ∧ Below w.heap.size w w' := by
  have M1 := Lib.hid m1; clear m1
  have M2 := Lib.hid m2; clear m2
  have M3 := Lib.hid m3; clear m3
  have HT := Lib.hid hT; clear hT
  have HQ := Lib.hid hq; clear hq
  go_enter Tryz.func100, Tryz.ntmps100
  go_upto_region 1 with (fail)
  go_name_world w1 hw1
  have BW1 : Below w.heap.size w w1 := by rw [← hw1]; repeat (first | (with_reducible exact Below.refl _ _) | (with_reducible refine bal ?_ _) | (with_reducible refine Below.drew ?_) | (with_reducible refine bdn ?_ _))
  have X1 : Row5 w1 w.heap.size (.bool g) (.int .u64 x0) (.int .u64 x1) (.int .u64 x2) (.int .u64 x3) := by rw [← hw1]; exact (by repeat (first | (with_reducible exact Row5.new _ _ _ _ _ _) | ((with_reducible refine Row5.new' _ ?_ _ _ _ _ _); (simp; done)) | (with_reducible refine Row5.alloc ?_ _) | (with_reducible refine Row5.drew ?_)))
  clear hw1
  obtain ⟨qX0, qX1, qX2, qX3, qX4⟩ := X1.parts
  have gX0 := cell_regrown qX0
  have gX1 := cell_regrown qX1
  have gX2 := cell_regrown qX2
  have gX3 := cell_regrown qX3
  have gX4 := cell_regrown qX4
  clear qX0 qX1 qX2 qX3 qX4
  have cq0 := fun (d : Nat) (os : Array Obj) => Calls.regrown_of (w := w1) (d := d) (os := os) (M1.out _)
  have cq1 := fun (d : Nat) (os : Array Obj) => Calls.regrown_of (w := w1) (d := d) (os := os) (M2.out _)
  have cq2 := fun (d : Nat) (os : Array Obj) => Calls.regrown_of (w := w1) (d := d) (os := os) (M3.out _ (tb_on HT.out (btr BW1 (below_regrown w1 d os))))
  refine wp_region_quiet_below (by kernel_rfl) (by kernel_rfl) ?_
  repeat (first | go_big_quiet_step ((first | exact cq0 _ _ | exact cq1 _ _ | exact cq2 _ _)) | quiet_step (first | exact cq0 _ _ | exact cq1 _ _ | exact cq2 _ _))
  refine wpQuiet_nil ?_
  intro _ hw'
  obtain ⟨⟨dq, osq⟩, hw''⟩ := hw'
  subst hw''
  clear gX0 gX1 gX2 gX3 gX4 cq0 cq1 cq2
  have hb := below_regrown w1 dq osq
  generalize grow (redrawn w1 dq) osq = w2 at *
  have BW2 : Below w.heap.size w w2 := btr BW1 hb
  have X2 : Row5 w2 w.heap.size (.bool g) (.int .u64 x0) (.int .u64 x1) (.int .u64 x2) (.int .u64 x3) := Row5.keep hb X1
  clear X1 BW1 hb
  go_wp2
  go_ret
  exact ⟨by rw [← HQ.out]; rfl, by repeat (first | (with_reducible exact BW2) | (with_reducible refine bal ?_ _) | (with_reducible refine Below.drew ?_) | (with_reducible refine bdn ?_ _))⟩

end Go.Proofs.YtebfggiodhaahaaGreatDoor
end
section
namespace Go.Proofs.YtebfggiodhaahaaGreatDoor
open Go.RowKit Go.Shelf

/-- Has a float of 64 bits that number? -/
def exq (x : Nat) : Bool := decide ((blen x : Int) - (tz x : Int) ≤ 53)
/-- The nearest number from z on, upward, that is exact. -/
def eup (z : Int) : Int :=
  if exq z.natAbs then z
  else if 0 ≤ z then (((z.natAbs / 2 ^ (blen z.natAbs - 53) + 1) * 2 ^ (blen z.natAbs - 53) : Nat) : Int)
  else -((z.natAbs / 2 ^ (blen z.natAbs - 53) * 2 ^ (blen z.natAbs - 53) : Nat) : Int)
/-- The nearest number from z on, upward, that is not exact. -/
def rup (z : Int) : Int := if exq z.natAbs then (if z.natAbs ≤ 9007199254740992 then 9007199254740993 else z + 1) else z

theorem tz_le {x : Nat} (h : x < 2 ^ 256) : tz x ≤ 256 := by
  by_cases h0 : x = 0
  · subst h0; decide
  · have := (tz_spec h0 h).2; omega
theorem may_z (z : Int) (hz : z.natAbs < 2 ^ 256) : ∀ W, Calls Tryz.prog 50 #[Iz z] W fun e w' => e = .returned (.bool true) ∧ Below W.heap.size W w' := fun W => may_yes z hz W
theorem exact_z (z : Int) (hz : z.natAbs < 2 ^ 256) (w : World) (hT : Tb w) :
    Calls Tryz.prog 100 #[Iz z] w fun e w' => e = .returned (.bool (exq z.natAbs)) ∧ Below w.heap.size w w' :=
  exact_yes _ _ _ _ _ (blen z.natAbs) (tz z.natAbs) (exq z.natAbs) rfl (by omega) (by have := blen_le hz; omega) (by omega) (by have := tz_le hz; omega)
    (may_z z hz) (fun W => len_any _ hz W) (fun W hW => (trail_one _ hz W hW).mono (fun e w' ⟨he, o, ho⟩ => ⟨he, by rw [ho]; exact bal (Below.refl _ _) _⟩)) w hT
theorem exact_bad (w : World) : Calls Tryz.prog 100 #[I5 true 0] w fun e w' => e = .returned (.bool false) ∧ Below w.heap.size w w' :=
  exact_no _ _ _ _ _ (fun W => may_no W) w
theorem N4_small (v : Nat) (h : v < 18446744073709551616) : N4 v = .agg #[.int .u64 (v : Int), .int .u64 0, .int .u64 0, .int .u64 0] := by
  unfold N4
  obtain ⟨l0, l1, l2, l3⟩ := lb_small (v := (v : Int)) (by omega) (by omega)
  rw [Int.natAbs_natCast] at l0 l1 l2 l3
  rw [l0, l1, l2, l3]
end Go.Proofs.YtebfggiodhaahaaGreatDoor
end
