/-
  entrepotlaw2.WholeExact: the walk. The tables math/bits.deBruijn64tab, internal/strconv.uint64pow10 read as their initialisers lay them. The nearest exact and rough numbers: plain arithmetic over blen, tz. For every number below 2^256 in size. The reference's Near, said of integers below 2^256 in size; entrepotlaw2.WholeExact for all. The tables math/bits.deBruijn64tab, internal/strconv.uint64pow10 read as their initialisers lay them.
-/
import Derived.Test.YtngmdncidieclaaDoorRefNear
import Derived.Test.YtngmdncidieclaaDoorWholeH
section
namespace Go.Proofs.YtngmdncidieclaaDoor
open Go.RowKit Go.Shelf
open Go.Sort (grow)
attribute [local go_sem ↓] eql_nat neq_nat eql_int5 neq_int5

set_option maxHeartbeats 4000000 in
set_option maxRecDepth 100000 in
theorem exact_core (g ag bg cg dg ab bb cb db q : Bool) (x an bn cn dn : Nat) (w : World) (hT : Tabs w)
    (q0 : eq5 ag (lb 0 an) (lb 1 an) (lb 2 an) (lb 3 an) ag (lb 0 an) (lb 1 an) (lb 2 an) (lb 3 an) = true)
    (q1 : eq5 bg (lb 0 bn) (lb 1 bn) (lb 2 bn) (lb 3 bn) bg (lb 0 bn) (lb 1 bn) (lb 2 bn) (lb 3 bn) = true)
    (q2 : eq5 cg (lb 0 cn) (lb 1 cn) (lb 2 cn) (lb 3 cn) cg (lb 0 cn) (lb 1 cn) (lb 2 cn) (lb 3 cn) = true)
    (q3 : eq5 dg (lb 0 dn) (lb 1 dn) (lb 2 dn) (lb 3 dn) dg (lb 0 dn) (lb 1 dn) (lb 2 dn) (lb 3 dn) = true)
    (k1 : ∀ W, Tb W → Calls Tryd.prog 48 #[I5 g x] W fun e w' => e = .returned (.tuple #[I5 ag an, .bool ab]) ∧ Below W.heap.size W w')
    (k2 : ∀ W, Calls Tryd.prog 49 #[I5 g x, .bool true, .bool true] W fun e w' => e = .returned (.tuple #[I5 ag an, .bool ab]) ∧ Below W.heap.size W w')
    (k3 : ∀ W, Tb W → Calls Tryd.prog 50 #[I5 g x] W fun e w' => e = .returned (.tuple #[I5 bg bn, .bool bb]) ∧ Below W.heap.size W w')
    (k4 : ∀ W, Calls Tryd.prog 49 #[I5 g x, .bool false, .bool true] W fun e w' => e = .returned (.tuple #[I5 bg bn, .bool bb]) ∧ Below W.heap.size W w')
    (k5 : ∀ W, Tb W → Calls Tryd.prog 51 #[I5 g x] W fun e w' => e = .returned (.tuple #[I5 cg cn, .bool cb]) ∧ Below W.heap.size W w')
    (k6 : ∀ W, Calls Tryd.prog 49 #[I5 g x, .bool true, .bool false] W fun e w' => e = .returned (.tuple #[I5 cg cn, .bool cb]) ∧ Below W.heap.size W w')
    (k7 : ∀ W, Tb W → Calls Tryd.prog 52 #[I5 g x] W fun e w' => e = .returned (.tuple #[I5 dg dn, .bool db]) ∧ Below W.heap.size W w')
    (k8 : ∀ W, Calls Tryd.prog 49 #[I5 g x, .bool false, .bool false] W fun e w' => e = .returned (.tuple #[I5 dg dn, .bool db]) ∧ Below W.heap.size W w')
    (k9 : ∀ W, Tb W → Calls Tryd.prog 53 #[I5 g x] W fun e w' => e = .returned (.bool q) ∧ Below W.heap.size W w')
    (k10 : ∀ W, Calls Tryd.prog 54 #[I5 g x] W fun e w' => e = .returned (.bool q) ∧ Below W.heap.size W w') :
    Calls Tryd.prog 7 #[I5 g x] w fun e w' => e = .returned (.bool true) ∧ Below w.heap.size w w' := by
  unfold I5 at *
  have HT := Lib.hid hT; have K1 := Lib.hid k1; have K2 := Lib.hid k2; have K3 := Lib.hid k3; have K4 := Lib.hid k4; have K5 := Lib.hid k5; have K6 := Lib.hid k6; have K7 := Lib.hid k7; have K8 := Lib.hid k8; have K9 := Lib.hid k9; have K10 := Lib.hid k10; have Q0 := Lib.hid q0; have Q1 := Lib.hid q1; have Q2 := Lib.hid q2; have Q3 := Lib.hid q3; clear hT k1 k2 k3 k4 k5 k6 k7 k8 k9 k10 q0 q1 q2 q3
  have e1 : (ab == ab) = true := beq_self_eq_true ab; have e2 : (bb == bb) = true := beq_self_eq_true bb; have e3 : (cb == cb) = true := beq_self_eq_true cb; have e4 : (db == db) = true := beq_self_eq_true db; have e5 : (q == q) = true := beq_self_eq_true q
  go_enter Tryd.func7, Tryd.ntmps7
  go_wp2_with fail
  refine (K1.out _ (tb_on HT.out.2 (by repeat (first | (with_reducible exact Below.refl _ _) | (with_reducible refine bal ?_ _) | (with_reducible refine Below.drew ?_) | (with_reducible refine bdn ?_ _))))).mono ?_
  rintro e w1 ⟨rfl, hb⟩
  have BW1 : Below w.heap.size w w1 := btr (by repeat (first | (with_reducible exact Below.refl _ _) | (with_reducible refine bal ?_ _) | (with_reducible refine Below.drew ?_) | (with_reducible refine bdn ?_ _))) hb
  have X1 : Row5 w1 w.heap.size (.bool g) (.int .u64 (lb 0 x)) (.int .u64 (lb 1 x)) (.int .u64 (lb 2 x)) (.int .u64 (lb 3 x)) := Row5.keep hb (by repeat (first | (with_reducible exact Row5.new _ _ _ _ _ _) | ((with_reducible refine Row5.new' _ ?_ _ _ _ _ _); (simp; done)) | (with_reducible refine Row5.alloc ?_ _) | (with_reducible refine Row5.drew ?_)))
  clear hb
  go_upto_region 2 with (fail)
  go_name_world w2 hw2
  have BW2 : Below w.heap.size w w2 := by rw [← hw2]; repeat (first | (with_reducible exact BW1) | (with_reducible refine bal ?_ _) | (with_reducible refine Below.drew ?_) | (with_reducible refine bdn ?_ _))
  have X2 : Row5 w2 w.heap.size (.bool g) (.int .u64 (lb 0 x)) (.int .u64 (lb 1 x)) (.int .u64 (lb 2 x)) (.int .u64 (lb 3 x)) := by rw [← hw2]; exact (by repeat (first | (with_reducible exact X1) | (with_reducible refine Row5.alloc ?_ _) | (with_reducible refine Row5.drew ?_)))
  have apA0_X := X1.lt
  have apA0_0 := (BW1).size
  have A02 : Row5 w2 w1.heap.size (.bool ag) (.int .u64 (lb 0 an)) (.int .u64 (lb 1 an)) (.int .u64 (lb 2 an)) (.int .u64 (lb 3 an)) := by rw [← hw2]; exact (by repeat (first | (with_reducible exact Row5.new _ _ _ _ _ _) | ((with_reducible refine Row5.new' _ ?_ _ _ _ _ _); (simp; done)) | (with_reducible refine Row5.alloc ?_ _) | (with_reducible refine Row5.drew ?_)))
  clear X1
  clear BW1
  clear hw2
  obtain ⟨Xc0, Xc1, Xc2, Xc3, Xc4⟩ := X2.parts
  obtain ⟨Xf0, Xf1, Xf2, Xf3, Xf4⟩ := X2.free
  go_wp2_with fail
  refine (K2.out _).mono ?_
  rintro e w3 ⟨rfl, hb⟩
  have BW3 : Below w.heap.size w w3 := btr (by repeat (first | (with_reducible exact BW2) | (with_reducible refine bal ?_ _) | (with_reducible refine Below.drew ?_) | (with_reducible refine bdn ?_ _))) hb
  have X3 : Row5 w3 w.heap.size (.bool g) (.int .u64 (lb 0 x)) (.int .u64 (lb 1 x)) (.int .u64 (lb 2 x)) (.int .u64 (lb 3 x)) := Row5.keep hb (by repeat (first | (with_reducible exact X2) | (with_reducible refine Row5.alloc ?_ _) | (with_reducible refine Row5.drew ?_)))
  have A03 : Row5 w3 w1.heap.size (.bool ag) (.int .u64 (lb 0 an)) (.int .u64 (lb 1 an)) (.int .u64 (lb 2 an)) (.int .u64 (lb 3 an)) := Row5.keep hb (by repeat (first | (with_reducible exact A02) | (with_reducible refine Row5.alloc ?_ _) | (with_reducible refine Row5.drew ?_)))
  clear X2 A02
  clear BW2
  clear hb
  go_upto_region 3 with (fail)
  go_name_world w4 hw4
  have BW4 : Below w.heap.size w w4 := by rw [← hw4]; repeat (first | (with_reducible exact BW3) | (with_reducible refine bal ?_ _) | (with_reducible refine Below.drew ?_) | (with_reducible refine bdn ?_ _))
  have X4 : Row5 w4 w.heap.size (.bool g) (.int .u64 (lb 0 x)) (.int .u64 (lb 1 x)) (.int .u64 (lb 2 x)) (.int .u64 (lb 3 x)) := by rw [← hw4]; exact (by repeat (first | (with_reducible exact X3) | (with_reducible refine Row5.alloc ?_ _) | (with_reducible refine Row5.drew ?_)))
  have A04 : Row5 w4 w1.heap.size (.bool ag) (.int .u64 (lb 0 an)) (.int .u64 (lb 1 an)) (.int .u64 (lb 2 an)) (.int .u64 (lb 3 an)) := by rw [← hw4]; exact (by repeat (first | (with_reducible exact A03) | (with_reducible refine Row5.alloc ?_ _) | (with_reducible refine Row5.drew ?_)))
  have apA1_X := X3.lt
  have apA1_A0 := A03.lt
  have apA1_0 := (BW3).size
  have A14 : Row5 w4 w3.heap.size (.bool ag) (.int .u64 (lb 0 an)) (.int .u64 (lb 1 an)) (.int .u64 (lb 2 an)) (.int .u64 (lb 3 an)) := by rw [← hw4]; exact (by repeat (first | (with_reducible exact Row5.new _ _ _ _ _ _) | ((with_reducible refine Row5.new' _ ?_ _ _ _ _ _); (simp; done)) | (with_reducible refine Row5.alloc ?_ _) | (with_reducible refine Row5.drew ?_)))
  clear X3 A03
  clear BW3
  clear hw4
  obtain ⟨Xc0, Xc1, Xc2, Xc3, Xc4⟩ := X4.parts
  obtain ⟨Xf0, Xf1, Xf2, Xf3, Xf4⟩ := X4.free
  go_wp2_with fail
  refine (K3.out _ (tb_on HT.out.2 (by repeat (first | (with_reducible exact BW4) | (with_reducible refine bal ?_ _) | (with_reducible refine Below.drew ?_) | (with_reducible refine bdn ?_ _))))).mono ?_
  rintro e w5 ⟨rfl, hb⟩
  have BW5 : Below w.heap.size w w5 := btr (by repeat (first | (with_reducible exact BW4) | (with_reducible refine bal ?_ _) | (with_reducible refine Below.drew ?_) | (with_reducible refine bdn ?_ _))) hb
  have X5 : Row5 w5 w.heap.size (.bool g) (.int .u64 (lb 0 x)) (.int .u64 (lb 1 x)) (.int .u64 (lb 2 x)) (.int .u64 (lb 3 x)) := Row5.keep hb (by repeat (first | (with_reducible exact X4) | (with_reducible refine Row5.alloc ?_ _) | (with_reducible refine Row5.drew ?_)))
  have A05 : Row5 w5 w1.heap.size (.bool ag) (.int .u64 (lb 0 an)) (.int .u64 (lb 1 an)) (.int .u64 (lb 2 an)) (.int .u64 (lb 3 an)) := Row5.keep hb (by repeat (first | (with_reducible exact A04) | (with_reducible refine Row5.alloc ?_ _) | (with_reducible refine Row5.drew ?_)))
  have A15 : Row5 w5 w3.heap.size (.bool ag) (.int .u64 (lb 0 an)) (.int .u64 (lb 1 an)) (.int .u64 (lb 2 an)) (.int .u64 (lb 3 an)) := Row5.keep hb (by repeat (first | (with_reducible exact A14) | (with_reducible refine Row5.alloc ?_ _) | (with_reducible refine Row5.drew ?_)))
  clear X4 A04 A14
  clear BW4
  clear hb
  go_upto_region 4 with (fail)
  go_name_world w6 hw6
  have BW6 : Below w.heap.size w w6 := by rw [← hw6]; repeat (first | (with_reducible exact BW5) | (with_reducible refine bal ?_ _) | (with_reducible refine Below.drew ?_) | (with_reducible refine bdn ?_ _))
  have X6 : Row5 w6 w.heap.size (.bool g) (.int .u64 (lb 0 x)) (.int .u64 (lb 1 x)) (.int .u64 (lb 2 x)) (.int .u64 (lb 3 x)) := by rw [← hw6]; exact (by repeat (first | (with_reducible exact X5) | (with_reducible refine Row5.alloc ?_ _) | (with_reducible refine Row5.drew ?_)))
  have A06 : Row5 w6 w1.heap.size (.bool ag) (.int .u64 (lb 0 an)) (.int .u64 (lb 1 an)) (.int .u64 (lb 2 an)) (.int .u64 (lb 3 an)) := by rw [← hw6]; exact (by repeat (first | (with_reducible exact A05) | (with_reducible refine Row5.alloc ?_ _) | (with_reducible refine Row5.drew ?_)))
  have A16 : Row5 w6 w3.heap.size (.bool ag) (.int .u64 (lb 0 an)) (.int .u64 (lb 1 an)) (.int .u64 (lb 2 an)) (.int .u64 (lb 3 an)) := by rw [← hw6]; exact (by repeat (first | (with_reducible exact A15) | (with_reducible refine Row5.alloc ?_ _) | (with_reducible refine Row5.drew ?_)))
  have apB0_X := X5.lt
  have apB0_A0 := A05.lt
  have apB0_A1 := A15.lt
  have apB0_0 := (BW5).size
  have B06 : Row5 w6 w5.heap.size (.bool bg) (.int .u64 (lb 0 bn)) (.int .u64 (lb 1 bn)) (.int .u64 (lb 2 bn)) (.int .u64 (lb 3 bn)) := by rw [← hw6]; exact (by repeat (first | (with_reducible exact Row5.new _ _ _ _ _ _) | ((with_reducible refine Row5.new' _ ?_ _ _ _ _ _); (simp; done)) | (with_reducible refine Row5.alloc ?_ _) | (with_reducible refine Row5.drew ?_)))
  clear X5 A05 A15
  clear BW5
  clear hw6
  obtain ⟨Xc0, Xc1, Xc2, Xc3, Xc4⟩ := X6.parts
  obtain ⟨Xf0, Xf1, Xf2, Xf3, Xf4⟩ := X6.free
  go_wp2_with fail
  refine (K4.out _).mono ?_
  rintro e w7 ⟨rfl, hb⟩
  have BW7 : Below w.heap.size w w7 := btr (by repeat (first | (with_reducible exact BW6) | (with_reducible refine bal ?_ _) | (with_reducible refine Below.drew ?_) | (with_reducible refine bdn ?_ _))) hb
  have X7 : Row5 w7 w.heap.size (.bool g) (.int .u64 (lb 0 x)) (.int .u64 (lb 1 x)) (.int .u64 (lb 2 x)) (.int .u64 (lb 3 x)) := Row5.keep hb (by repeat (first | (with_reducible exact X6) | (with_reducible refine Row5.alloc ?_ _) | (with_reducible refine Row5.drew ?_)))
  have A07 : Row5 w7 w1.heap.size (.bool ag) (.int .u64 (lb 0 an)) (.int .u64 (lb 1 an)) (.int .u64 (lb 2 an)) (.int .u64 (lb 3 an)) := Row5.keep hb (by repeat (first | (with_reducible exact A06) | (with_reducible refine Row5.alloc ?_ _) | (with_reducible refine Row5.drew ?_)))
  have A17 : Row5 w7 w3.heap.size (.bool ag) (.int .u64 (lb 0 an)) (.int .u64 (lb 1 an)) (.int .u64 (lb 2 an)) (.int .u64 (lb 3 an)) := Row5.keep hb (by repeat (first | (with_reducible exact A16) | (with_reducible refine Row5.alloc ?_ _) | (with_reducible refine Row5.drew ?_)))
  have B07 : Row5 w7 w5.heap.size (.bool bg) (.int .u64 (lb 0 bn)) (.int .u64 (lb 1 bn)) (.int .u64 (lb 2 bn)) (.int .u64 (lb 3 bn)) := Row5.keep hb (by repeat (first | (with_reducible exact B06) | (with_reducible refine Row5.alloc ?_ _) | (with_reducible refine Row5.drew ?_)))
  clear X6 A06 A16 B06
  clear BW6
  clear hb
  go_upto_region 5 with (fail)
  go_name_world w8 hw8
  have BW8 : Below w.heap.size w w8 := by rw [← hw8]; repeat (first | (with_reducible exact BW7) | (with_reducible refine bal ?_ _) | (with_reducible refine Below.drew ?_) | (with_reducible refine bdn ?_ _))
  have X8 : Row5 w8 w.heap.size (.bool g) (.int .u64 (lb 0 x)) (.int .u64 (lb 1 x)) (.int .u64 (lb 2 x)) (.int .u64 (lb 3 x)) := by rw [← hw8]; exact (by repeat (first | (with_reducible exact X7) | (with_reducible refine Row5.alloc ?_ _) | (with_reducible refine Row5.drew ?_)))
  have A08 : Row5 w8 w1.heap.size (.bool ag) (.int .u64 (lb 0 an)) (.int .u64 (lb 1 an)) (.int .u64 (lb 2 an)) (.int .u64 (lb 3 an)) := by rw [← hw8]; exact (by repeat (first | (with_reducible exact A07) | (with_reducible refine Row5.alloc ?_ _) | (with_reducible refine Row5.drew ?_)))
  have A18 : Row5 w8 w3.heap.size (.bool ag) (.int .u64 (lb 0 an)) (.int .u64 (lb 1 an)) (.int .u64 (lb 2 an)) (.int .u64 (lb 3 an)) := by rw [← hw8]; exact (by repeat (first | (with_reducible exact A17) | (with_reducible refine Row5.alloc ?_ _) | (with_reducible refine Row5.drew ?_)))
  have B08 : Row5 w8 w5.heap.size (.bool bg) (.int .u64 (lb 0 bn)) (.int .u64 (lb 1 bn)) (.int .u64 (lb 2 bn)) (.int .u64 (lb 3 bn)) := by rw [← hw8]; exact (by repeat (first | (with_reducible exact B07) | (with_reducible refine Row5.alloc ?_ _) | (with_reducible refine Row5.drew ?_)))
  have apB1_X := X7.lt
  have apB1_A0 := A07.lt
  have apB1_A1 := A17.lt
  have apB1_B0 := B07.lt
  have apB1_0 := (BW7).size
  have B18 : Row5 w8 w7.heap.size (.bool bg) (.int .u64 (lb 0 bn)) (.int .u64 (lb 1 bn)) (.int .u64 (lb 2 bn)) (.int .u64 (lb 3 bn)) := by rw [← hw8]; exact (by repeat (first | (with_reducible exact Row5.new _ _ _ _ _ _) | ((with_reducible refine Row5.new' _ ?_ _ _ _ _ _); (simp; done)) | (with_reducible refine Row5.alloc ?_ _) | (with_reducible refine Row5.drew ?_)))
  clear X7 A07 A17 B07
  clear BW7
  clear hw8
  obtain ⟨Xc0, Xc1, Xc2, Xc3, Xc4⟩ := X8.parts
  obtain ⟨Xf0, Xf1, Xf2, Xf3, Xf4⟩ := X8.free
  go_wp2_with fail
  refine (K5.out _ (tb_on HT.out.2 (by repeat (first | (with_reducible exact BW8) | (with_reducible refine bal ?_ _) | (with_reducible refine Below.drew ?_) | (with_reducible refine bdn ?_ _))))).mono ?_
  rintro e w9 ⟨rfl, hb⟩
  have BW9 : Below w.heap.size w w9 := btr (by repeat (first | (with_reducible exact BW8) | (with_reducible refine bal ?_ _) | (with_reducible refine Below.drew ?_) | (with_reducible refine bdn ?_ _))) hb
  have X9 : Row5 w9 w.heap.size (.bool g) (.int .u64 (lb 0 x)) (.int .u64 (lb 1 x)) (.int .u64 (lb 2 x)) (.int .u64 (lb 3 x)) := Row5.keep hb (by repeat (first | (with_reducible exact X8) | (with_reducible refine Row5.alloc ?_ _) | (with_reducible refine Row5.drew ?_)))
  have A09 : Row5 w9 w1.heap.size (.bool ag) (.int .u64 (lb 0 an)) (.int .u64 (lb 1 an)) (.int .u64 (lb 2 an)) (.int .u64 (lb 3 an)) := Row5.keep hb (by repeat (first | (with_reducible exact A08) | (with_reducible refine Row5.alloc ?_ _) | (with_reducible refine Row5.drew ?_)))
  have A19 : Row5 w9 w3.heap.size (.bool ag) (.int .u64 (lb 0 an)) (.int .u64 (lb 1 an)) (.int .u64 (lb 2 an)) (.int .u64 (lb 3 an)) := Row5.keep hb (by repeat (first | (with_reducible exact A18) | (with_reducible refine Row5.alloc ?_ _) | (with_reducible refine Row5.drew ?_)))
  have B09 : Row5 w9 w5.heap.size (.bool bg) (.int .u64 (lb 0 bn)) (.int .u64 (lb 1 bn)) (.int .u64 (lb 2 bn)) (.int .u64 (lb 3 bn)) := Row5.keep hb (by repeat (first | (with_reducible exact B08) | (with_reducible refine Row5.alloc ?_ _) | (with_reducible refine Row5.drew ?_)))
  have B19 : Row5 w9 w7.heap.size (.bool bg) (.int .u64 (lb 0 bn)) (.int .u64 (lb 1 bn)) (.int .u64 (lb 2 bn)) (.int .u64 (lb 3 bn)) := Row5.keep hb (by repeat (first | (with_reducible exact B18) | (with_reducible refine Row5.alloc ?_ _) | (with_reducible refine Row5.drew ?_)))
  clear X8 A08 A18 B08 B18
  clear BW8
  clear hb
  go_upto_region 6 with (fail)
  go_name_world w10 hw10
  have BW10 : Below w.heap.size w w10 := by rw [← hw10]; repeat (first | (with_reducible exact BW9) | (with_reducible refine bal ?_ _) | (with_reducible refine Below.drew ?_) | (with_reducible refine bdn ?_ _))
  have X10 : Row5 w10 w.heap.size (.bool g) (.int .u64 (lb 0 x)) (.int .u64 (lb 1 x)) (.int .u64 (lb 2 x)) (.int .u64 (lb 3 x)) := by rw [← hw10]; exact (by repeat (first | (with_reducible exact X9) | (with_reducible refine Row5.alloc ?_ _) | (with_reducible refine Row5.drew ?_)))
  have A010 : Row5 w10 w1.heap.size (.bool ag) (.int .u64 (lb 0 an)) (.int .u64 (lb 1 an)) (.int .u64 (lb 2 an)) (.int .u64 (lb 3 an)) := by rw [← hw10]; exact (by repeat (first | (with_reducible exact A09) | (with_reducible refine Row5.alloc ?_ _) | (with_reducible refine Row5.drew ?_)))
  have A110 : Row5 w10 w3.heap.size (.bool ag) (.int .u64 (lb 0 an)) (.int .u64 (lb 1 an)) (.int .u64 (lb 2 an)) (.int .u64 (lb 3 an)) := by rw [← hw10]; exact (by repeat (first | (with_reducible exact A19) | (with_reducible refine Row5.alloc ?_ _) | (with_reducible refine Row5.drew ?_)))
  have B010 : Row5 w10 w5.heap.size (.bool bg) (.int .u64 (lb 0 bn)) (.int .u64 (lb 1 bn)) (.int .u64 (lb 2 bn)) (.int .u64 (lb 3 bn)) := by rw [← hw10]; exact (by repeat (first | (with_reducible exact B09) | (with_reducible refine Row5.alloc ?_ _) | (with_reducible refine Row5.drew ?_)))
  have B110 : Row5 w10 w7.heap.size (.bool bg) (.int .u64 (lb 0 bn)) (.int .u64 (lb 1 bn)) (.int .u64 (lb 2 bn)) (.int .u64 (lb 3 bn)) := by rw [← hw10]; exact (by repeat (first | (with_reducible exact B19) | (with_reducible refine Row5.alloc ?_ _) | (with_reducible refine Row5.drew ?_)))
  have apE0_X := X9.lt
  have apE0_A0 := A09.lt
  have apE0_A1 := A19.lt
  have apE0_B0 := B09.lt
  have apE0_B1 := B19.lt
  have apE0_0 := (BW9).size
  have E010 : Row5 w10 w9.heap.size (.bool cg) (.int .u64 (lb 0 cn)) (.int .u64 (lb 1 cn)) (.int .u64 (lb 2 cn)) (.int .u64 (lb 3 cn)) := by rw [← hw10]; exact (by repeat (first | (with_reducible exact Row5.new _ _ _ _ _ _) | ((with_reducible refine Row5.new' _ ?_ _ _ _ _ _); (simp; done)) | (with_reducible refine Row5.alloc ?_ _) | (with_reducible refine Row5.drew ?_)))
  clear X9 A09 A19 B09 B19
  clear BW9
  clear hw10
  obtain ⟨Xc0, Xc1, Xc2, Xc3, Xc4⟩ := X10.parts
  obtain ⟨Xf0, Xf1, Xf2, Xf3, Xf4⟩ := X10.free
  go_wp2_with fail
  refine (K6.out _).mono ?_
  rintro e w11 ⟨rfl, hb⟩
  have BW11 : Below w.heap.size w w11 := btr (by repeat (first | (with_reducible exact BW10) | (with_reducible refine bal ?_ _) | (with_reducible refine Below.drew ?_) | (with_reducible refine bdn ?_ _))) hb
  have X11 : Row5 w11 w.heap.size (.bool g) (.int .u64 (lb 0 x)) (.int .u64 (lb 1 x)) (.int .u64 (lb 2 x)) (.int .u64 (lb 3 x)) := Row5.keep hb (by repeat (first | (with_reducible exact X10) | (with_reducible refine Row5.alloc ?_ _) | (with_reducible refine Row5.drew ?_)))
  have A011 : Row5 w11 w1.heap.size (.bool ag) (.int .u64 (lb 0 an)) (.int .u64 (lb 1 an)) (.int .u64 (lb 2 an)) (.int .u64 (lb 3 an)) := Row5.keep hb (by repeat (first | (with_reducible exact A010) | (with_reducible refine Row5.alloc ?_ _) | (with_reducible refine Row5.drew ?_)))
  have A111 : Row5 w11 w3.heap.size (.bool ag) (.int .u64 (lb 0 an)) (.int .u64 (lb 1 an)) (.int .u64 (lb 2 an)) (.int .u64 (lb 3 an)) := Row5.keep hb (by repeat (first | (with_reducible exact A110) | (with_reducible refine Row5.alloc ?_ _) | (with_reducible refine Row5.drew ?_)))
  have B011 : Row5 w11 w5.heap.size (.bool bg) (.int .u64 (lb 0 bn)) (.int .u64 (lb 1 bn)) (.int .u64 (lb 2 bn)) (.int .u64 (lb 3 bn)) := Row5.keep hb (by repeat (first | (with_reducible exact B010) | (with_reducible refine Row5.alloc ?_ _) | (with_reducible refine Row5.drew ?_)))
  have B111 : Row5 w11 w7.heap.size (.bool bg) (.int .u64 (lb 0 bn)) (.int .u64 (lb 1 bn)) (.int .u64 (lb 2 bn)) (.int .u64 (lb 3 bn)) := Row5.keep hb (by repeat (first | (with_reducible exact B110) | (with_reducible refine Row5.alloc ?_ _) | (with_reducible refine Row5.drew ?_)))
  have E011 : Row5 w11 w9.heap.size (.bool cg) (.int .u64 (lb 0 cn)) (.int .u64 (lb 1 cn)) (.int .u64 (lb 2 cn)) (.int .u64 (lb 3 cn)) := Row5.keep hb (by repeat (first | (with_reducible exact E010) | (with_reducible refine Row5.alloc ?_ _) | (with_reducible refine Row5.drew ?_)))
  clear X10 A010 A110 B010 B110 E010
  clear BW10
  clear hb
  go_upto_region 7 with (fail)
  go_name_world w12 hw12
  have BW12 : Below w.heap.size w w12 := by rw [← hw12]; repeat (first | (with_reducible exact BW11) | (with_reducible refine bal ?_ _) | (with_reducible refine Below.drew ?_) | (with_reducible refine bdn ?_ _))
  have X12 : Row5 w12 w.heap.size (.bool g) (.int .u64 (lb 0 x)) (.int .u64 (lb 1 x)) (.int .u64 (lb 2 x)) (.int .u64 (lb 3 x)) := by rw [← hw12]; exact (by repeat (first | (with_reducible exact X11) | (with_reducible refine Row5.alloc ?_ _) | (with_reducible refine Row5.drew ?_)))
  have A012 : Row5 w12 w1.heap.size (.bool ag) (.int .u64 (lb 0 an)) (.int .u64 (lb 1 an)) (.int .u64 (lb 2 an)) (.int .u64 (lb 3 an)) := by rw [← hw12]; exact (by repeat (first | (with_reducible exact A011) | (with_reducible refine Row5.alloc ?_ _) | (with_reducible refine Row5.drew ?_)))
  have A112 : Row5 w12 w3.heap.size (.bool ag) (.int .u64 (lb 0 an)) (.int .u64 (lb 1 an)) (.int .u64 (lb 2 an)) (.int .u64 (lb 3 an)) := by rw [← hw12]; exact (by repeat (first | (with_reducible exact A111) | (with_reducible refine Row5.alloc ?_ _) | (with_reducible refine Row5.drew ?_)))
  have B012 : Row5 w12 w5.heap.size (.bool bg) (.int .u64 (lb 0 bn)) (.int .u64 (lb 1 bn)) (.int .u64 (lb 2 bn)) (.int .u64 (lb 3 bn)) := by rw [← hw12]; exact (by repeat (first | (with_reducible exact B011) | (with_reducible refine Row5.alloc ?_ _) | (with_reducible refine Row5.drew ?_)))
  have B112 : Row5 w12 w7.heap.size (.bool bg) (.int .u64 (lb 0 bn)) (.int .u64 (lb 1 bn)) (.int .u64 (lb 2 bn)) (.int .u64 (lb 3 bn)) := by rw [← hw12]; exact (by repeat (first | (with_reducible exact B111) | (with_reducible refine Row5.alloc ?_ _) | (with_reducible refine Row5.drew ?_)))
  have E012 : Row5 w12 w9.heap.size (.bool cg) (.int .u64 (lb 0 cn)) (.int .u64 (lb 1 cn)) (.int .u64 (lb 2 cn)) (.int .u64 (lb 3 cn)) := by rw [← hw12]; exact (by repeat (first | (with_reducible exact E011) | (with_reducible refine Row5.alloc ?_ _) | (with_reducible refine Row5.drew ?_)))
  have apE1_X := X11.lt
  have apE1_A0 := A011.lt
  have apE1_A1 := A111.lt
  have apE1_B0 := B011.lt
  have apE1_B1 := B111.lt
  have apE1_E0 := E011.lt
  have apE1_0 := (BW11).size
  have E112 : Row5 w12 w11.heap.size (.bool cg) (.int .u64 (lb 0 cn)) (.int .u64 (lb 1 cn)) (.int .u64 (lb 2 cn)) (.int .u64 (lb 3 cn)) := by rw [← hw12]; exact (by repeat (first | (with_reducible exact Row5.new _ _ _ _ _ _) | ((with_reducible refine Row5.new' _ ?_ _ _ _ _ _); (simp; done)) | (with_reducible refine Row5.alloc ?_ _) | (with_reducible refine Row5.drew ?_)))
  clear X11 A011 A111 B011 B111 E011
  clear BW11
  clear hw12
  obtain ⟨Xc0, Xc1, Xc2, Xc3, Xc4⟩ := X12.parts
  obtain ⟨Xf0, Xf1, Xf2, Xf3, Xf4⟩ := X12.free
  go_wp2_with fail
  refine (K7.out _ (tb_on HT.out.2 (by repeat (first | (with_reducible exact BW12) | (with_reducible refine bal ?_ _) | (with_reducible refine Below.drew ?_) | (with_reducible refine bdn ?_ _))))).mono ?_
  rintro e w13 ⟨rfl, hb⟩
  have BW13 : Below w.heap.size w w13 := btr (by repeat (first | (with_reducible exact BW12) | (with_reducible refine bal ?_ _) | (with_reducible refine Below.drew ?_) | (with_reducible refine bdn ?_ _))) hb
  have X13 : Row5 w13 w.heap.size (.bool g) (.int .u64 (lb 0 x)) (.int .u64 (lb 1 x)) (.int .u64 (lb 2 x)) (.int .u64 (lb 3 x)) := Row5.keep hb (by repeat (first | (with_reducible exact X12) | (with_reducible refine Row5.alloc ?_ _) | (with_reducible refine Row5.drew ?_)))
  have A013 : Row5 w13 w1.heap.size (.bool ag) (.int .u64 (lb 0 an)) (.int .u64 (lb 1 an)) (.int .u64 (lb 2 an)) (.int .u64 (lb 3 an)) := Row5.keep hb (by repeat (first | (with_reducible exact A012) | (with_reducible refine Row5.alloc ?_ _) | (with_reducible refine Row5.drew ?_)))
  have A113 : Row5 w13 w3.heap.size (.bool ag) (.int .u64 (lb 0 an)) (.int .u64 (lb 1 an)) (.int .u64 (lb 2 an)) (.int .u64 (lb 3 an)) := Row5.keep hb (by repeat (first | (with_reducible exact A112) | (with_reducible refine Row5.alloc ?_ _) | (with_reducible refine Row5.drew ?_)))
  have B013 : Row5 w13 w5.heap.size (.bool bg) (.int .u64 (lb 0 bn)) (.int .u64 (lb 1 bn)) (.int .u64 (lb 2 bn)) (.int .u64 (lb 3 bn)) := Row5.keep hb (by repeat (first | (with_reducible exact B012) | (with_reducible refine Row5.alloc ?_ _) | (with_reducible refine Row5.drew ?_)))
  have B113 : Row5 w13 w7.heap.size (.bool bg) (.int .u64 (lb 0 bn)) (.int .u64 (lb 1 bn)) (.int .u64 (lb 2 bn)) (.int .u64 (lb 3 bn)) := Row5.keep hb (by repeat (first | (with_reducible exact B112) | (with_reducible refine Row5.alloc ?_ _) | (with_reducible refine Row5.drew ?_)))
  have E013 : Row5 w13 w9.heap.size (.bool cg) (.int .u64 (lb 0 cn)) (.int .u64 (lb 1 cn)) (.int .u64 (lb 2 cn)) (.int .u64 (lb 3 cn)) := Row5.keep hb (by repeat (first | (with_reducible exact E012) | (with_reducible refine Row5.alloc ?_ _) | (with_reducible refine Row5.drew ?_)))
  have E113 : Row5 w13 w11.heap.size (.bool cg) (.int .u64 (lb 0 cn)) (.int .u64 (lb 1 cn)) (.int .u64 (lb 2 cn)) (.int .u64 (lb 3 cn)) := Row5.keep hb (by repeat (first | (with_reducible exact E112) | (with_reducible refine Row5.alloc ?_ _) | (with_reducible refine Row5.drew ?_)))
  clear X12 A012 A112 B012 B112 E012 E112
  clear BW12
  clear hb
  go_upto_region 8 with (fail)
  go_name_world w14 hw14
  have BW14 : Below w.heap.size w w14 := by rw [← hw14]; repeat (first | (with_reducible exact BW13) | (with_reducible refine bal ?_ _) | (with_reducible refine Below.drew ?_) | (with_reducible refine bdn ?_ _))
  have X14 : Row5 w14 w.heap.size (.bool g) (.int .u64 (lb 0 x)) (.int .u64 (lb 1 x)) (.int .u64 (lb 2 x)) (.int .u64 (lb 3 x)) := by rw [← hw14]; exact (by repeat (first | (with_reducible exact X13) | (with_reducible refine Row5.alloc ?_ _) | (with_reducible refine Row5.drew ?_)))
  have A014 : Row5 w14 w1.heap.size (.bool ag) (.int .u64 (lb 0 an)) (.int .u64 (lb 1 an)) (.int .u64 (lb 2 an)) (.int .u64 (lb 3 an)) := by rw [← hw14]; exact (by repeat (first | (with_reducible exact A013) | (with_reducible refine Row5.alloc ?_ _) | (with_reducible refine Row5.drew ?_)))
  have A114 : Row5 w14 w3.heap.size (.bool ag) (.int .u64 (lb 0 an)) (.int .u64 (lb 1 an)) (.int .u64 (lb 2 an)) (.int .u64 (lb 3 an)) := by rw [← hw14]; exact (by repeat (first | (with_reducible exact A113) | (with_reducible refine Row5.alloc ?_ _) | (with_reducible refine Row5.drew ?_)))
  have B014 : Row5 w14 w5.heap.size (.bool bg) (.int .u64 (lb 0 bn)) (.int .u64 (lb 1 bn)) (.int .u64 (lb 2 bn)) (.int .u64 (lb 3 bn)) := by rw [← hw14]; exact (by repeat (first | (with_reducible exact B013) | (with_reducible refine Row5.alloc ?_ _) | (with_reducible refine Row5.drew ?_)))
  have B114 : Row5 w14 w7.heap.size (.bool bg) (.int .u64 (lb 0 bn)) (.int .u64 (lb 1 bn)) (.int .u64 (lb 2 bn)) (.int .u64 (lb 3 bn)) := by rw [← hw14]; exact (by repeat (first | (with_reducible exact B113) | (with_reducible refine Row5.alloc ?_ _) | (with_reducible refine Row5.drew ?_)))
  have E014 : Row5 w14 w9.heap.size (.bool cg) (.int .u64 (lb 0 cn)) (.int .u64 (lb 1 cn)) (.int .u64 (lb 2 cn)) (.int .u64 (lb 3 cn)) := by rw [← hw14]; exact (by repeat (first | (with_reducible exact E013) | (with_reducible refine Row5.alloc ?_ _) | (with_reducible refine Row5.drew ?_)))
  have E114 : Row5 w14 w11.heap.size (.bool cg) (.int .u64 (lb 0 cn)) (.int .u64 (lb 1 cn)) (.int .u64 (lb 2 cn)) (.int .u64 (lb 3 cn)) := by rw [← hw14]; exact (by repeat (first | (with_reducible exact E113) | (with_reducible refine Row5.alloc ?_ _) | (with_reducible refine Row5.drew ?_)))
  have apF0_X := X13.lt
  have apF0_A0 := A013.lt
  have apF0_A1 := A113.lt
  have apF0_B0 := B013.lt
  have apF0_B1 := B113.lt
  have apF0_E0 := E013.lt
  have apF0_E1 := E113.lt
  have apF0_0 := (BW13).size
  have F014 : Row5 w14 w13.heap.size (.bool dg) (.int .u64 (lb 0 dn)) (.int .u64 (lb 1 dn)) (.int .u64 (lb 2 dn)) (.int .u64 (lb 3 dn)) := by rw [← hw14]; exact (by repeat (first | (with_reducible exact Row5.new _ _ _ _ _ _) | ((with_reducible refine Row5.new' _ ?_ _ _ _ _ _); (simp; done)) | (with_reducible refine Row5.alloc ?_ _) | (with_reducible refine Row5.drew ?_)))
  clear X13 A013 A113 B013 B113 E013 E113
  clear BW13
  clear hw14
  obtain ⟨Xc0, Xc1, Xc2, Xc3, Xc4⟩ := X14.parts
  obtain ⟨Xf0, Xf1, Xf2, Xf3, Xf4⟩ := X14.free
  go_wp2_with fail
  refine (K8.out _).mono ?_
  rintro e w15 ⟨rfl, hb⟩
  have BW15 : Below w.heap.size w w15 := btr (by repeat (first | (with_reducible exact BW14) | (with_reducible refine bal ?_ _) | (with_reducible refine Below.drew ?_) | (with_reducible refine bdn ?_ _))) hb
  have X15 : Row5 w15 w.heap.size (.bool g) (.int .u64 (lb 0 x)) (.int .u64 (lb 1 x)) (.int .u64 (lb 2 x)) (.int .u64 (lb 3 x)) := Row5.keep hb (by repeat (first | (with_reducible exact X14) | (with_reducible refine Row5.alloc ?_ _) | (with_reducible refine Row5.drew ?_)))
  have A015 : Row5 w15 w1.heap.size (.bool ag) (.int .u64 (lb 0 an)) (.int .u64 (lb 1 an)) (.int .u64 (lb 2 an)) (.int .u64 (lb 3 an)) := Row5.keep hb (by repeat (first | (with_reducible exact A014) | (with_reducible refine Row5.alloc ?_ _) | (with_reducible refine Row5.drew ?_)))
  have A115 : Row5 w15 w3.heap.size (.bool ag) (.int .u64 (lb 0 an)) (.int .u64 (lb 1 an)) (.int .u64 (lb 2 an)) (.int .u64 (lb 3 an)) := Row5.keep hb (by repeat (first | (with_reducible exact A114) | (with_reducible refine Row5.alloc ?_ _) | (with_reducible refine Row5.drew ?_)))
  have B015 : Row5 w15 w5.heap.size (.bool bg) (.int .u64 (lb 0 bn)) (.int .u64 (lb 1 bn)) (.int .u64 (lb 2 bn)) (.int .u64 (lb 3 bn)) := Row5.keep hb (by repeat (first | (with_reducible exact B014) | (with_reducible refine Row5.alloc ?_ _) | (with_reducible refine Row5.drew ?_)))
  have B115 : Row5 w15 w7.heap.size (.bool bg) (.int .u64 (lb 0 bn)) (.int .u64 (lb 1 bn)) (.int .u64 (lb 2 bn)) (.int .u64 (lb 3 bn)) := Row5.keep hb (by repeat (first | (with_reducible exact B114) | (with_reducible refine Row5.alloc ?_ _) | (with_reducible refine Row5.drew ?_)))
  have E015 : Row5 w15 w9.heap.size (.bool cg) (.int .u64 (lb 0 cn)) (.int .u64 (lb 1 cn)) (.int .u64 (lb 2 cn)) (.int .u64 (lb 3 cn)) := Row5.keep hb (by repeat (first | (with_reducible exact E014) | (with_reducible refine Row5.alloc ?_ _) | (with_reducible refine Row5.drew ?_)))
  have E115 : Row5 w15 w11.heap.size (.bool cg) (.int .u64 (lb 0 cn)) (.int .u64 (lb 1 cn)) (.int .u64 (lb 2 cn)) (.int .u64 (lb 3 cn)) := Row5.keep hb (by repeat (first | (with_reducible exact E114) | (with_reducible refine Row5.alloc ?_ _) | (with_reducible refine Row5.drew ?_)))
  have F015 : Row5 w15 w13.heap.size (.bool dg) (.int .u64 (lb 0 dn)) (.int .u64 (lb 1 dn)) (.int .u64 (lb 2 dn)) (.int .u64 (lb 3 dn)) := Row5.keep hb (by repeat (first | (with_reducible exact F014) | (with_reducible refine Row5.alloc ?_ _) | (with_reducible refine Row5.drew ?_)))
  clear X14 A014 A114 B014 B114 E014 E114 F014
  clear BW14
  clear hb
  go_upto_region 9 with (fail)
  go_name_world w16 hw16
  have BW16 : Below w.heap.size w w16 := by rw [← hw16]; repeat (first | (with_reducible exact BW15) | (with_reducible refine bal ?_ _) | (with_reducible refine Below.drew ?_) | (with_reducible refine bdn ?_ _))
  have X16 : Row5 w16 w.heap.size (.bool g) (.int .u64 (lb 0 x)) (.int .u64 (lb 1 x)) (.int .u64 (lb 2 x)) (.int .u64 (lb 3 x)) := by rw [← hw16]; exact (by repeat (first | (with_reducible exact X15) | (with_reducible refine Row5.alloc ?_ _) | (with_reducible refine Row5.drew ?_)))
  have A016 : Row5 w16 w1.heap.size (.bool ag) (.int .u64 (lb 0 an)) (.int .u64 (lb 1 an)) (.int .u64 (lb 2 an)) (.int .u64 (lb 3 an)) := by rw [← hw16]; exact (by repeat (first | (with_reducible exact A015) | (with_reducible refine Row5.alloc ?_ _) | (with_reducible refine Row5.drew ?_)))
  have A116 : Row5 w16 w3.heap.size (.bool ag) (.int .u64 (lb 0 an)) (.int .u64 (lb 1 an)) (.int .u64 (lb 2 an)) (.int .u64 (lb 3 an)) := by rw [← hw16]; exact (by repeat (first | (with_reducible exact A115) | (with_reducible refine Row5.alloc ?_ _) | (with_reducible refine Row5.drew ?_)))
  have B016 : Row5 w16 w5.heap.size (.bool bg) (.int .u64 (lb 0 bn)) (.int .u64 (lb 1 bn)) (.int .u64 (lb 2 bn)) (.int .u64 (lb 3 bn)) := by rw [← hw16]; exact (by repeat (first | (with_reducible exact B015) | (with_reducible refine Row5.alloc ?_ _) | (with_reducible refine Row5.drew ?_)))
  have B116 : Row5 w16 w7.heap.size (.bool bg) (.int .u64 (lb 0 bn)) (.int .u64 (lb 1 bn)) (.int .u64 (lb 2 bn)) (.int .u64 (lb 3 bn)) := by rw [← hw16]; exact (by repeat (first | (with_reducible exact B115) | (with_reducible refine Row5.alloc ?_ _) | (with_reducible refine Row5.drew ?_)))
  have E016 : Row5 w16 w9.heap.size (.bool cg) (.int .u64 (lb 0 cn)) (.int .u64 (lb 1 cn)) (.int .u64 (lb 2 cn)) (.int .u64 (lb 3 cn)) := by rw [← hw16]; exact (by repeat (first | (with_reducible exact E015) | (with_reducible refine Row5.alloc ?_ _) | (with_reducible refine Row5.drew ?_)))
  have E116 : Row5 w16 w11.heap.size (.bool cg) (.int .u64 (lb 0 cn)) (.int .u64 (lb 1 cn)) (.int .u64 (lb 2 cn)) (.int .u64 (lb 3 cn)) := by rw [← hw16]; exact (by repeat (first | (with_reducible exact E115) | (with_reducible refine Row5.alloc ?_ _) | (with_reducible refine Row5.drew ?_)))
  have F016 : Row5 w16 w13.heap.size (.bool dg) (.int .u64 (lb 0 dn)) (.int .u64 (lb 1 dn)) (.int .u64 (lb 2 dn)) (.int .u64 (lb 3 dn)) := by rw [← hw16]; exact (by repeat (first | (with_reducible exact F015) | (with_reducible refine Row5.alloc ?_ _) | (with_reducible refine Row5.drew ?_)))
  have apF1_X := X15.lt
  have apF1_A0 := A015.lt
  have apF1_A1 := A115.lt
  have apF1_B0 := B015.lt
  have apF1_B1 := B115.lt
  have apF1_E0 := E015.lt
  have apF1_E1 := E115.lt
  have apF1_F0 := F015.lt
  have apF1_0 := (BW15).size
  have F116 : Row5 w16 w15.heap.size (.bool dg) (.int .u64 (lb 0 dn)) (.int .u64 (lb 1 dn)) (.int .u64 (lb 2 dn)) (.int .u64 (lb 3 dn)) := by rw [← hw16]; exact (by repeat (first | (with_reducible exact Row5.new _ _ _ _ _ _) | ((with_reducible refine Row5.new' _ ?_ _ _ _ _ _); (simp; done)) | (with_reducible refine Row5.alloc ?_ _) | (with_reducible refine Row5.drew ?_)))
  clear X15 A015 A115 B015 B115 E015 E115 F015
  clear BW15
  clear hw16
  have q0 := Q0.out; have q1 := Q1.out; have q2 := Q2.out; have q3 := Q3.out
  obtain ⟨qX0, qX1, qX2, qX3, qX4⟩ := X16.parts
  have gX0 := cell_regrown qX0
  have gX1 := cell_regrown qX1
  have gX2 := cell_regrown qX2
  have gX3 := cell_regrown qX3
  have gX4 := cell_regrown qX4
  clear qX0 qX1 qX2 qX3 qX4
  obtain ⟨qA00, qA01, qA02, qA03, qA04⟩ := A016.parts
  have gA00 := cell_regrown qA00
  have gA01 := cell_regrown qA01
  have gA02 := cell_regrown qA02
  have gA03 := cell_regrown qA03
  have gA04 := cell_regrown qA04
  clear qA00 qA01 qA02 qA03 qA04
  obtain ⟨qA10, qA11, qA12, qA13, qA14⟩ := A116.parts
  have gA10 := cell_regrown qA10
  have gA11 := cell_regrown qA11
  have gA12 := cell_regrown qA12
  have gA13 := cell_regrown qA13
  have gA14 := cell_regrown qA14
  clear qA10 qA11 qA12 qA13 qA14
  obtain ⟨qB00, qB01, qB02, qB03, qB04⟩ := B016.parts
  have gB00 := cell_regrown qB00
  have gB01 := cell_regrown qB01
  have gB02 := cell_regrown qB02
  have gB03 := cell_regrown qB03
  have gB04 := cell_regrown qB04
  clear qB00 qB01 qB02 qB03 qB04
  obtain ⟨qB10, qB11, qB12, qB13, qB14⟩ := B116.parts
  have gB10 := cell_regrown qB10
  have gB11 := cell_regrown qB11
  have gB12 := cell_regrown qB12
  have gB13 := cell_regrown qB13
  have gB14 := cell_regrown qB14
  clear qB10 qB11 qB12 qB13 qB14
  obtain ⟨qE00, qE01, qE02, qE03, qE04⟩ := E016.parts
  have gE00 := cell_regrown qE00
  have gE01 := cell_regrown qE01
  have gE02 := cell_regrown qE02
  have gE03 := cell_regrown qE03
  have gE04 := cell_regrown qE04
  clear qE00 qE01 qE02 qE03 qE04
  obtain ⟨qE10, qE11, qE12, qE13, qE14⟩ := E116.parts
  have gE10 := cell_regrown qE10
  have gE11 := cell_regrown qE11
  have gE12 := cell_regrown qE12
  have gE13 := cell_regrown qE13
  have gE14 := cell_regrown qE14
  clear qE10 qE11 qE12 qE13 qE14
  obtain ⟨qF00, qF01, qF02, qF03, qF04⟩ := F016.parts
  have gF00 := cell_regrown qF00
  have gF01 := cell_regrown qF01
  have gF02 := cell_regrown qF02
  have gF03 := cell_regrown qF03
  have gF04 := cell_regrown qF04
  clear qF00 qF01 qF02 qF03 qF04
  obtain ⟨qF10, qF11, qF12, qF13, qF14⟩ := F116.parts
  have gF10 := cell_regrown qF10
  have gF11 := cell_regrown qF11
  have gF12 := cell_regrown qF12
  have gF13 := cell_regrown qF13
  have gF14 := cell_regrown qF14
  clear qF10 qF11 qF12 qF13 qF14
  have cq0 := fun (d : Nat) (os : Array Obj) => Calls.regrown_of (w := w16) (d := d) (os := os) (told2_true _ (tabs_on HT.out (btr BW16 (below_regrown w16 d os))))
  have cq1 := fun (d : Nat) (os : Array Obj) => Calls.regrown_of (w := w16) (d := d) (os := os) (K9.out _ (tb_on HT.out.2 (btr BW16 (below_regrown w16 d os))))
  have cq2 := fun (d : Nat) (os : Array Obj) => Calls.regrown_of (w := w16) (d := d) (os := os) (K10.out _)
  refine wp_region_quiet_below (by kernel_rfl) (by kernel_rfl) ?_
  try simp only [List.append]
  repeat (first | go_big_quiet_step ((first | (with_reducible exact cq0 _ _) | (with_reducible exact cq1 _ _) | (with_reducible exact cq2 _ _))) | quiet_step (first | (with_reducible exact cq0 _ _) | (with_reducible exact cq1 _ _) | (with_reducible exact cq2 _ _)))
  refine wpQuiet_nil ?_
  intro _ hw'
  obtain ⟨⟨dq, osq⟩, hw''⟩ := hw'
  subst hw''
  clear gX0 gX1 gX2 gX3 gX4 gA00 gA01 gA02 gA03 gA04 gA10 gA11 gA12 gA13 gA14 gB00 gB01 gB02 gB03 gB04 gB10 gB11 gB12 gB13 gB14 gE00 gE01 gE02 gE03 gE04 gE10 gE11 gE12 gE13 gE14 gF00 gF01 gF02 gF03 gF04 gF10 gF11 gF12 gF13 gF14 cq0 cq1 cq2
  have hb := below_regrown w16 dq osq
  generalize grow (redrawn w16 dq) osq = w17 at *
  have BW17 : Below w.heap.size w w17 := btr BW16 hb
  have X17 : Row5 w17 w.heap.size (.bool g) (.int .u64 (lb 0 x)) (.int .u64 (lb 1 x)) (.int .u64 (lb 2 x)) (.int .u64 (lb 3 x)) := Row5.keep hb X16
  have A017 : Row5 w17 w1.heap.size (.bool ag) (.int .u64 (lb 0 an)) (.int .u64 (lb 1 an)) (.int .u64 (lb 2 an)) (.int .u64 (lb 3 an)) := Row5.keep hb A016
  have A117 : Row5 w17 w3.heap.size (.bool ag) (.int .u64 (lb 0 an)) (.int .u64 (lb 1 an)) (.int .u64 (lb 2 an)) (.int .u64 (lb 3 an)) := Row5.keep hb A116
  have B017 : Row5 w17 w5.heap.size (.bool bg) (.int .u64 (lb 0 bn)) (.int .u64 (lb 1 bn)) (.int .u64 (lb 2 bn)) (.int .u64 (lb 3 bn)) := Row5.keep hb B016
  have B117 : Row5 w17 w7.heap.size (.bool bg) (.int .u64 (lb 0 bn)) (.int .u64 (lb 1 bn)) (.int .u64 (lb 2 bn)) (.int .u64 (lb 3 bn)) := Row5.keep hb B116
  have E017 : Row5 w17 w9.heap.size (.bool cg) (.int .u64 (lb 0 cn)) (.int .u64 (lb 1 cn)) (.int .u64 (lb 2 cn)) (.int .u64 (lb 3 cn)) := Row5.keep hb E016
  have E117 : Row5 w17 w11.heap.size (.bool cg) (.int .u64 (lb 0 cn)) (.int .u64 (lb 1 cn)) (.int .u64 (lb 2 cn)) (.int .u64 (lb 3 cn)) := Row5.keep hb E116
  have F017 : Row5 w17 w13.heap.size (.bool dg) (.int .u64 (lb 0 dn)) (.int .u64 (lb 1 dn)) (.int .u64 (lb 2 dn)) (.int .u64 (lb 3 dn)) := Row5.keep hb F016
  have F117 : Row5 w17 w15.heap.size (.bool dg) (.int .u64 (lb 0 dn)) (.int .u64 (lb 1 dn)) (.int .u64 (lb 2 dn)) (.int .u64 (lb 3 dn)) := Row5.keep hb F116
  clear X16 A016 A116 B016 B116 E016 E116 F016 F116 BW16 hb
  go_wp2
  go_ret
  exact ⟨rfl, BW17⟩
end Go.Proofs.YtngmdncidieclaaDoor
end
section
namespace Go.Proofs.YtngmdncidieclaaDoor

/-- A number that a float of 64 bits has: 53 bits, moved. -/
theorem exq_iff {x : Nat} (hx : x < 2 ^ 256) : exq x = true ↔ ∃ m k : Nat, x = m * 2 ^ k ∧ m < 2 ^ 53 := by
  by_cases h0 : x = 0
  · subst h0
    refine ⟨fun _ => ⟨0, 0, by simp, by decide⟩, fun _ => by decide +kernel⟩
  obtain ⟨⟨n, hn⟩, ht⟩ := tz_spec h0 hx
  obtain ⟨b1, b2, b3⟩ := blen_spec h0
  unfold exq
  rw [decide_eq_true_iff]
  constructor
  · intro h
    refine ⟨2 * n + 1, tz x, by rw [Nat.mul_comm]; exact hn, ?_⟩
    have hlt : 2 ^ tz x * (2 * n + 1) < 2 ^ (tz x + 53) := by
      rw [← hn]
      exact Nat.lt_of_lt_of_le b3 (Nat.pow_le_pow_right (by decide) (by omega))
    rw [Nat.pow_add] at hlt
    exact Nat.lt_of_mul_lt_mul_left hlt
  · rintro ⟨m, k, hm, hlt⟩
    have hm0 : m ≠ 0 := by intro h; subst h; simp at hm; exact h0 hm
    -- the noughts at the end are at least k more than m's
    have hk : k ≤ tz x := by
      apply Decidable.byContradiction
      intro hk
      have : x = 2 ^ tz x * (2 * (m * 2 ^ (k - tz x - 1))) := by
        have e : 2 ^ k = 2 ^ tz x * (2 * 2 ^ (k - tz x - 1)) := by
          rw [← Nat.pow_succ', ← Nat.pow_add, show tz x + (k - tz x - 1 + 1) = k from by omega]
        conv => lhs; rw [hm, e]
        rw [Nat.mul_left_comm, Nat.mul_left_comm m 2]
      rw [this] at hn
      have e1 : tz (2 ^ tz x * (2 * (m * 2 ^ (k - tz x - 1)))) = tz x := by rw [← this]
      rw [e1] at hn
      have := Nat.eq_of_mul_eq_mul_left (Nat.two_pow_pos _) hn
      omega
    have hb : blen x ≤ 53 + k := by
      apply blen_le
      rw [hm, Nat.pow_add]
      exact Nat.mul_lt_mul_of_pos_right hlt (Nat.two_pow_pos _)
    omega
/-- Of a number that is not exact: cut off below 53 bits, it is less, and more than that by one of the last bits kept is greater; nothing exact lies between. -/
theorem cut_bounds {x : Nat} (hx : x < 2 ^ 256) (h : exq x = false) : 53 < blen x ∧
    (let o := blen x - 53
     x / 2 ^ o < 2 ^ 53 ∧ 2 ^ 52 ≤ x / 2 ^ o ∧ x / 2 ^ o * 2 ^ o < x ∧ x < (x / 2 ^ o + 1) * 2 ^ o) := by
  have hb := blen_exq h
  refine ⟨hb, ?_⟩
  have h0 : x ≠ 0 := by intro e; subst e; simp [blen] at hb
  obtain ⟨b1, b2, b3⟩ := blen_spec h0
  intro o
  have ho : blen x = 53 + o := by omega
  have hp := Nat.two_pow_pos o
  have c1 : x / 2 ^ o < 2 ^ 53 := by
    rw [Nat.div_lt_iff_lt_mul hp, ← Nat.pow_add, ← ho]; exact b3
  have c2 : 2 ^ 52 ≤ x / 2 ^ o := by
    rw [Nat.le_div_iff_mul_le hp, ← Nat.pow_add]
    rwa [show 52 + o = blen x - 1 from by omega]
  refine ⟨c1, c2, ?_, ?_⟩
  · rcases Nat.lt_or_eq_of_le (Nat.div_mul_le_self x (2 ^ o)) with h1 | h1
    · exact h1
    · exfalso
      have : exq x = true := (exq_iff hx).2 ⟨x / 2 ^ o, o, h1.symm, c1⟩
      rw [h] at this; cases this
  · have := Nat.lt_div_mul_add hp (a := x)
    rw [Nat.add_mul, Nat.one_mul]; exact this
/-- An exact number is at the cut, or below, or beyond the next one. -/
theorem exact_apart {x y : Nat} (hx : x < 2 ^ 256) (hy : y < 2 ^ 256) (h : exq x = false) (he : exq y = true) :
    y ≤ x / 2 ^ (blen x - 53) * 2 ^ (blen x - 53) ∨ (x / 2 ^ (blen x - 53) + 1) * 2 ^ (blen x - 53) ≤ y := by
  obtain ⟨hb, c⟩ := cut_bounds hx h
  obtain ⟨c1, c2, c3, c4⟩ := c
  obtain ⟨m, k, hm, hlt⟩ := (exq_iff hy).1 he
  have hp := Nat.two_pow_pos (blen x - 53)
  by_cases hk : blen x - 53 ≤ k
  · -- y is a multiple of the last bit kept
    obtain ⟨j, rfl⟩ : ∃ j, k = (blen x - 53) + j := ⟨k - (blen x - 53), by omega⟩
    have e : y = (m * 2 ^ j) * 2 ^ (blen x - 53) := by rw [hm, Nat.pow_add, Nat.mul_comm (2 ^ (blen x - 53)), Nat.mul_assoc]
    rw [e]
    rcases Nat.lt_or_ge (x / 2 ^ (blen x - 53)) (m * 2 ^ j) with h1 | h1
    · exact .inr (Nat.mul_le_mul_right _ h1)
    · exact .inl (Nat.mul_le_mul_right _ h1)
  · -- y is less than any number of so many bits
    left
    have hy2 : y < 2 ^ (53 + k) := by
      rw [hm, Nat.pow_add]; exact Nat.mul_lt_mul_of_pos_right hlt (Nat.two_pow_pos _)
    have h3 : 2 ^ (53 + k) ≤ 2 ^ 52 * 2 ^ (blen x - 53) := by
      rw [← Nat.pow_add]; exact Nat.pow_le_pow_right (by decide) (by omega)
    have h4 : 2 ^ 52 * 2 ^ (blen x - 53) ≤ x / 2 ^ (blen x - 53) * 2 ^ (blen x - 53) := Nat.mul_le_mul_right _ c2
    omega
theorem exq_cut {x : Nat} (hx : x < 2 ^ 256) (h : exq x = false) : exq (x / 2 ^ (blen x - 53) * 2 ^ (blen x - 53)) = true := by
  obtain ⟨_, c⟩ := cut_bounds hx h
  obtain ⟨c1, _, c3, _⟩ := c
  exact (exq_iff (by omega)).2 ⟨_, _, rfl, c1⟩
theorem exq_next {x : Nat} (hx : x < 2 ^ 256) (h : exq x = false) (hl : (x / 2 ^ (blen x - 53) + 1) * 2 ^ (blen x - 53) < 2 ^ 256) : exq ((x / 2 ^ (blen x - 53) + 1) * 2 ^ (blen x - 53)) = true := by
  obtain ⟨_, c⟩ := cut_bounds hx h
  obtain ⟨c1, _, _, _⟩ := c
  rcases Nat.lt_or_eq_of_le (show x / 2 ^ (blen x - 53) + 1 ≤ 2 ^ 53 from c1) with h1 | h1
  · exact (exq_iff hl).2 ⟨_, _, rfl, h1⟩
  · refine (exq_iff hl).2 ⟨1, 53 + (blen x - 53), ?_, by decide⟩
    rw [h1, Nat.one_mul, Nat.pow_add]

/-- Small numbers are exact; beyond 2^53 the exact ones are even. -/
theorem exq_small {x : Nat} (h : x ≤ 2 ^ 53) : exq x = true := by
  rcases Nat.lt_or_eq_of_le h with h1 | h1
  · exact (exq_iff (by omega)).2 ⟨x, 0, by simp, h1⟩
  · exact (exq_iff (by omega)).2 ⟨1, 53, by rw [h1], by decide⟩
theorem exq_even {x : Nat} (hx : x < 2 ^ 256) (h : exq x = true) (hl : 2 ^ 53 ≤ x) : x % 2 = 0 := by
  obtain ⟨m, k, hm, hlt⟩ := (exq_iff hx).1 h
  cases k with
  | zero => simp at hm; omega
  | succ k => rw [hm, Nat.pow_succ, ← Nat.mul_assoc]; omega
theorem exq_odd {x : Nat} (hx : x < 2 ^ 256) (hl : 2 ^ 53 < x) (ho : x % 2 = 1) : exq x = false := by
  cases h : exq x with
  | false => rfl
  | true => have := exq_even hx h (by omega); omega

/-- Upward and downward, said of integers. -/
theorem eup_ge {z : Int} (hz : z.natAbs < 2 ^ 256) : z ≤ eup z ∧ ((eup z).natAbs < 2 ^ 256 → exq (eup z).natAbs = true) := by
  unfold eup
  by_cases hq : exq z.natAbs = true
  · rw [if_pos hq]; exact ⟨Int.le_refl _, fun _ => hq⟩
  · rw [if_neg hq]
    have hq' : exq z.natAbs = false := by simpa using hq
    obtain ⟨_, c⟩ := cut_bounds hz hq'
    obtain ⟨c1, c2, c3, c4⟩ := c
    by_cases h0 : 0 ≤ z
    · rw [if_pos h0]
      refine ⟨by omega, fun hl => ?_⟩
      rw [Int.natAbs_natCast] at hl ⊢
      exact exq_next hz hq' hl
    · rw [if_neg h0]
      refine ⟨by omega, fun hl => ?_⟩
      rw [Int.natAbs_neg, Int.natAbs_natCast] at hl ⊢
      exact exq_cut hz hq'
theorem eup_le {z b : Int} (hz : z.natAbs < 2 ^ 256) (hb : b.natAbs < 2 ^ 256) (he : exq b.natAbs = true) (h : z ≤ b) : eup z ≤ b := by
  unfold eup
  by_cases hq : exq z.natAbs = true
  · rw [if_pos hq]; exact h
  · rw [if_neg hq]
    have hq' : exq z.natAbs = false := by simpa using hq
    obtain ⟨_, c⟩ := cut_bounds hz hq'
    obtain ⟨c1, c2, c3, c4⟩ := c
    have ap := exact_apart hz hb hq' he
    have hp := Nat.two_pow_pos (blen z.natAbs - 53)
    by_cases h0 : 0 ≤ z
    · rw [if_pos h0]
      rcases ap with h1 | h1 <;> omega
    · rw [if_neg h0]
      by_cases hb0 : 0 ≤ b
      · omega
      · rcases ap with h1 | h1 <;> omega
theorem rup_ge {z : Int} (hz : z.natAbs < 2 ^ 256) : z ≤ rup z ∧ (rup z).natAbs < 2 ^ 256 ∧ exq (rup z).natAbs = false := by
  unfold rup
  by_cases hq : exq z.natAbs = true
  · rw [if_pos hq]
    by_cases hs : z.natAbs ≤ 9007199254740992
    · rw [if_pos hs]
      exact ⟨by omega, by decide, by decide +kernel⟩
    · rw [if_neg hs]
      have hev := exq_even hz hq (by omega)
      have hl : (z + 1).natAbs < 2 ^ 256 := by omega
      exact ⟨by omega, hl, exq_odd hl (by omega) (by omega)⟩
  · rw [if_neg hq]
    exact ⟨Int.le_refl _, hz, by simpa using hq⟩
theorem rup_le {z b : Int} (_hz : z.natAbs < 2 ^ 256) (hb : b.natAbs < 2 ^ 256) (he : exq b.natAbs = false) (h : z ≤ b) : rup z ≤ b := by
  have hbl : 9007199254740992 < b.natAbs := by
    apply Decidable.byContradiction
    intro hn
    have := exq_small (x := b.natAbs) (by omega)
    rw [he] at this; cases this
  unfold rup
  by_cases hq : exq z.natAbs = true
  · rw [if_pos hq]
    by_cases hs : z.natAbs ≤ 9007199254740992
    · rw [if_pos hs]; omega
    · rw [if_neg hs]
      have : z ≠ b := by intro e; subst e; rw [he] at hq; cases hq
      omega
  · rw [if_neg hq]; exact h
/-- Where nothing exact is left above: none that is greater is. -/
theorem eup_none {z b : Int} (hz : z.natAbs < 2 ^ 256) (hb : b.natAbs < 2 ^ 256) (hn : ¬ (eup z).natAbs < 2 ^ 256) (he : exq b.natAbs = true) : b < z := by
  apply Decidable.byContradiction
  intro h
  have h1 := eup_le hz hb he (by omega)
  have h2 := (eup_ge hz).1
  omega
/-- Both ends are not missed at once. -/
theorem eup_some {z : Int} (hz : z.natAbs < 2 ^ 256) : (eup z).natAbs < 2 ^ 256 ∨ (eup (-z)).natAbs < 2 ^ 256 := by
  by_cases h0 : 0 ≤ z
  · right
    have h1 := (eup_ge (z := -z) (by omega)).1
    have h2 := eup_le (z := -z) (b := 0) (by omega) (by decide) (by decide +kernel) (by omega)
    omega
  · left
    have h1 := (eup_ge hz).1
    have h2 := eup_le (z := z) (b := 0) hz (by decide) (by decide +kernel) (by omega)
    omega
end Go.Proofs.YtngmdncidieclaaDoor
end
section
namespace Go.Proofs.YtngmdncidieclaaDoor
open Go.RowKit Go.Shelf

theorem under_same {f : FuncId} {l : Array Value} {w : World} {r : Ending} (h : Calls Tryd.prog f l w fun e w' => e = r ∧ w' = w) : Calls Tryd.prog f l w fun e w' => e = r ∧ Below w.heap.size w w' :=
  h.mono (fun _ _ ⟨a, b⟩ => ⟨a, by rw [b]; exact Below.refl _ _⟩)
theorem rmay_ok (g : Bool) (x : Nat) (hx : x < 2 ^ 256) (h : ¬ (g = true ∧ x = 0)) (w : World) :
    Calls Tryd.prog 29 #[I5 g x] w fun e w' => e = .returned (.bool true) ∧ Below w.heap.size w w' := by
  cases g with
  | false => exact rmay_pos _ _ _ _ w
  | true =>
    have hm := rmay_neg (lb 0 x) (lb 1 x) (lb 2 x) (lb 3 x) w
    rw [show eq4 (lb 0 x) (lb 1 x) (lb 2 x) (lb 3 x) 0 0 0 0 = false from (eq4_of x 0 hx (by decide)).trans (decide_eq_false (fun h0 => h ⟨rfl, h0⟩))] at hm
    exact hm
theorem rmay_none (w : World) :
    Calls Tryd.prog 29 #[I5 true 0] w fun e w' => e = .returned (.bool false) ∧ Below w.heap.size w w' := by
  have hm := rmay_neg 0 0 0 0 w
  rw [show eq4 0 0 0 0 0 0 0 0 = true by decide] at hm
  unfold I5
  simp only [lb_zero]
  exact hm
theorem rexq (g : Bool) (x : Nat) (hx : x < 2 ^ 256) (h : ¬ (g = true ∧ x = 0)) (w : World) :
    Calls Tryd.prog 54 #[I5 g x] w fun e w' => e = .returned (.bool (exq x)) ∧ Below w.heap.size w w' := by
  have km := fun W => rmay_ok g x hx h W
  have lx := digs_eight hx
  by_cases h0 : x = 0
  · subst h0
    rw [show exq 0 = true from by decide]
    exact rex_zero g 0 hx w km (fun s' W hD => under_same (rlen hD lx))
  · obtain ⟨⟨m, hm⟩, ht⟩ := tz_spec h0 hx
    have hL := blen_le hx
    have hbs := blen_spec h0
    have hz : (((blen x : Nat) : Int) == 0) = false := by rw [beq_eq_false_iff_ne]; omega
    cases hq : exq x with
    | true =>
      unfold exq at hq
      have hq := of_decide_eq_true hq
      exact rex_some g x hx (blen x) (tz x) hz (by omega) (by omega) hq w km (fun s' W hD => under_same (rlen hD lx)) (fun s' W hD => under_same (rtrail hD lx hm (by omega)))
    | false =>
      unfold exq at hq
      have hq := of_decide_eq_false hq
      exact rex_no g x hx (blen x) (tz x) hz (by omega) (by omega) (by omega) w km (fun s' W hD => under_same (rlen hD lx)) (fun s' W hD => under_same (rtrail hD lx hm (by omega)))
theorem znum_fm (t : Int) : ∃ h y, y < 2 ^ 256 ∧ Znum t = .tuple #[I5 h y, .bool (decide (t.natAbs < 2 ^ 256))] ∧ (t.natAbs < 2 ^ 256 → y = t.natAbs ∧ ¬ (h = true ∧ y = 0)) := by
  by_cases ht : t.natAbs < 2 ^ 256
  · rw [decide_eq_true ht, Znum_of ht]
    refine ⟨_, _, ht, rfl, fun _ => ⟨rfl, ?_⟩⟩
    rintro ⟨h1, h2⟩
    have := of_decide_eq_true h1
    omega
  · rw [decide_eq_false ht, Znum_Z5 ht]
    exact ⟨false, 0, by decide, by unfold I5; simp only [lb_zero], fun h => absurd h ht⟩
theorem rwh_zn {s : Value} {v : Nat} (g : Bool) (t : Int) (ht : t = if g then -(v : Int) else v) {w : World} (h : DR w s v) :
    Calls Tryd.prog 85 #[.bool g, s] w fun e w' => e = .returned (Znum t) ∧ Below w.heap.size w w' := by
  have hn : t.natAbs = v := by rw [ht]; split <;> omega
  have := rwh g h
  rw [← ht] at this
  unfold Znum
  rw [hn]
  exact this
/-- odd, of a number that is not exact, or of none. -/
theorem rodd_zn {h : Bool} {y : Nat} {t : Int} (up : Bool) (hy : y < 2 ^ 256) (hyt : t.natAbs < 2 ^ 256 → y = t.natAbs ∧ ¬ (h = true ∧ y = 0)) (ho : exq t.natAbs = false) (w : World) :
    Calls Tryd.prog 92 #[I5 h y, .bool (decide (t.natAbs < 2 ^ 256)), .bool up] w fun e w' => e = .returned (.tuple #[I5 h y, .bool (decide (t.natAbs < 2 ^ 256))]) ∧ Below w.heap.size w w' := by
  by_cases ht : t.natAbs < 2 ^ 256
  · rw [decide_eq_true ht]
    obtain ⟨e, hg⟩ := hyt ht
    exact rodd_rough h up _ _ _ _ w (fun W => by
      have := rexq h y hy hg W
      rw [e, ho, ← e] at this
      exact this)
  · rw [decide_eq_false ht]
    exact rodd_none h up _ _ _ _ w
/-- The target of Near. -/
def nearT (z : Int) (up ex : Bool) : Int := if ex then (if up then eup z else -(eup (-z))) else (if up then rup z else -(rup (-z)))
theorem shift_down {x k : Nat} (hk : 0 < k) (hk2 : k ≤ 300) (lx : (digs x).length ≤ 1000) {s : Value} {w : World} (h : DR w s x) :
    Calls Tryd.prog 13 #[s, .int .i64 (-(k : Int))] w fun e w' => ∃ s2, e = .returned s2 ∧ DR w' s2 (x / 2 ^ k) ∧ Below w.heap.size w w' := by
  have := rshift h lx (-(k : Int)) (by omega) (by omega)
  unfold shv at this
  rw [if_neg (by omega), show (-(-(k : Int))).toNat = k from by omega] at this
  exact this
theorem shift_up {x k : Nat} (hk2 : k ≤ 300) (lx : (digs x).length ≤ 1000) {s : Value} {w : World} (h : DR w s x) :
    Calls Tryd.prog 13 #[s, .int .i64 (k : Int)] w fun e w' => ∃ s2, e = .returned s2 ∧ DR w' s2 (x * 2 ^ k) ∧ Below w.heap.size w w' := by
  have := rshift h lx (k : Int) (by omega) (by omega)
  unfold shv at this
  rw [if_pos (by omega), Int.toNat_natCast] at this
  exact this
theorem rnear_z (g : Bool) (x : Nat) (hx : x < 2 ^ 256) (hg : ¬ (g = true ∧ x = 0)) (z : Int) (ez : z = if g then -(x : Int) else x) (up ex : Bool) (w : World) :
    Calls Tryd.prog 49 #[I5 g x, .bool up, .bool ex] w fun e w' => e = .returned (Znum (nearT z up ex)) ∧ Below w.heap.size w w' := by
  have hn : z.natAbs = x := by rw [ez]; split <;> omega
  have hn2 : (-z).natAbs = x := by omega
  have lx := digs_eight hx
  have k1 := fun W => rmay_ok g x hx hg W
  have k2 := fun W => rexq g x hx hg W
  have klen : ∀ s' W, DR W s' x → Calls Tryd.prog 12 #[s'] W fun e w' => e = .returned (.int .i64 ((blen x : Nat) : Int)) ∧ Below W.heap.size W w' := fun s' W hD => under_same (rlen hD lx)
  by_cases hs : exq x = ex
  · have ht : nearT z up ex = z := by
      unfold nearT
      cases ex with
      | true =>
        have e1 : eup z = z := by unfold eup; rw [hn, hs, if_pos rfl]
        have e2 : eup (-z) = -z := by unfold eup; rw [hn2, hs, if_pos rfl]
        rw [e1, e2]
        cases up <;> simp
      | false =>
        have e1 : rup z = z := by unfold rup; rw [hn, hs]; rfl
        have e2 : rup (-z) = -z := by unfold rup; rw [hn2, hs]; rfl
        rw [e1, e2]
        cases up <;> simp
    rw [ht, Znum_of (by omega)]
    have hI : Iz z = I5 g x := by
      rw [ez]
      cases g with
      | false => exact Iz_nat x
      | true => exact Iz_neg (fun h0 => hg ⟨rfl, h0⟩)
    rw [hI]
    rw [hs] at k2
    cases g <;> cases ex
    · exact rnear_same_false_false up x hx w k1 k2
    · exact rnear_same_false_true up x hx w k1 k2
    · exact rnear_same_true_false up x hx w k1 k2
    · exact rnear_same_true_true up x hx w k1 k2
  · obtain ⟨h, y, hy, hf, hyt⟩ := znum_fm (nearT z up ex)
    have key : ∀ (gg : Bool) (v : Nat), nearT z up ex = (if gg then -(v : Int) else v) → ∀ s' W, DR W s' v → Calls Tryd.prog 85 #[.bool gg, s'] W fun e w' => e = .returned (.tuple #[I5 h y, .bool (decide ((nearT z up ex).natAbs < 2 ^ 256))]) ∧ Below W.heap.size W w' := fun gg v e s' W hD => by
      have := rwh_zn gg _ e hD
      rw [hf] at this
      exact this
    rw [hf]
    cases ex with
    | true =>
      have hq : exq x = false := by cases h : exq x with
        | false => rfl
        | true => exact absurd h hs
      rw [hq] at k2
      have hb := blen_exq hq
      have hL := blen_le hx
      obtain ⟨k, hk⟩ : ∃ k, blen x = k + 53 := ⟨blen x - 53, by omega⟩
      have hk2 : blen x - 53 = k := by omega
      have hx0 : x ≠ 0 := by intro h0; rw [h0] at hb; revert hb; decide
      obtain ⟨q, hqq⟩ : ∃ q, q = x / 2 ^ k := ⟨_, rfl⟩
      have hq1 : q ≤ x := by rw [hqq]; exact Nat.div_le_self _ _
      have hqd : q + 1 < 2 ^ 256 := by
        have h2 : 2 ≤ 2 ^ k := by
          have := Nat.pow_le_pow_right (show 0 < 2 by decide) (show 1 ≤ k by omega)
          exact this
        have h3 : q * 2 ≤ x := by
          have h4 := Nat.div_mul_le_self x (2 ^ k)
          rw [← hqq] at h4
          exact Nat.le_trans (Nat.mul_le_mul_left _ h2) h4
        omega
      have lq := digs_eight (show q < 2 ^ 256 by omega)
      have lq1 := digs_eight hqd
      have eupp : ∀ t : Int, t.natAbs = x → eup t = if 0 ≤ t then (((q + 1) * 2 ^ k : Nat) : Int) else -((q * 2 ^ k : Nat) : Int) := fun t ht => by
        unfold eup
        rw [ht, hq, hk2, ← hqq]
        simp only [Bool.false_eq_true, if_false]
      have hki : ((blen x : Nat) : Int) - 53 = (k : Int) := by omega
      have k4 : ∀ s' W, DR W s' x → Calls Tryd.prog 13 #[s', .int .i64 (-(k : Int))] W fun e w' => ∃ s2, e = .returned s2 ∧ DR w' s2 q ∧ Below W.heap.size W w' := fun s' W hD => by
        rw [hqq]; exact shift_down (by omega) (by omega) lx hD
      have up5 : ∀ s' W, DR W s' (q + 1) → Calls Tryd.prog 13 #[s', .int .i64 (k : Int)] W fun e w' => ∃ s2, e = .returned s2 ∧ DR w' s2 ((q + 1) * 2 ^ k) ∧ Below W.heap.size W w' := fun s' W hD => shift_up (by omega) lq1 hD
      have dn5 : ∀ s' W, DR W s' q → Calls Tryd.prog 13 #[s', .int .i64 (k : Int)] W fun e w' => ∃ s2, e = .returned s2 ∧ DR w' s2 (q * 2 ^ k) ∧ Below W.heap.size W w' := fun s' W hD => shift_up (by omega) lq hD
      have T1 : nearT z true true = eup z := rfl
      have T2 : nearT z false true = -(eup (-z)) := rfl
      cases g <;> cases up
      · simp only [Bool.false_eq_true, if_false] at ez
        exact rnear_cut_false x hx h _ _ _ _ _ (blen x) k q (q * 2 ^ k) hki (by omega) w k1 k2 klen k4 dn5 (key false _ (by rw [T2, eupp _ hn2, if_neg (by omega)]; simp))
      · simp only [Bool.false_eq_true, if_false] at ez
        exact rnear_cutup_false x hx h _ _ _ _ _ (blen x) k q ((q + 1) * 2 ^ k) hki (by omega) (by omega) w k1 k2 klen k4 up5 (key false _ (by rw [T1, eupp _ hn, if_pos (by omega)]; simp))
      · simp only [if_true] at ez
        exact rnear_cutup_true x hx h _ _ _ _ _ (blen x) k q ((q + 1) * 2 ^ k) hki (by omega) (by omega) w k1 k2 klen k4 up5 (key true _ (by rw [T2, eupp _ hn2, if_pos (by omega)]; simp))
      · simp only [if_true] at ez
        exact rnear_cut_true x hx h _ _ _ _ _ (blen x) k q (q * 2 ^ k) hki (by omega) w k1 k2 klen k4 dn5 (key true _ (by rw [T1, eupp _ hn, if_neg (by omega)]; simp))
    | false =>
      have hq : exq x = true := by cases h : exq x with
        | true => rfl
        | false => exact absurd h hs
      rw [hq] at k2
      have e53 : (2 : Nat) ^ 53 = 9007199254740992 := by decide
      have rupp : ∀ t : Int, t.natAbs = x → rup t = if x ≤ 9007199254740992 then 9007199254740993 else t + 1 := fun t ht => by
        unfold rup
        rw [ht, hq]
        simp only [if_true]
      have hlen : blen x ≤ 53 → x < 9007199254740992 := fun hl => by
        by_cases h0 : x = 0
        · omega
        · have hb := (blen_spec h0).2.2
          exact Nat.lt_of_lt_of_le hb (by rw [← e53]; exact Nat.pow_le_pow_right (by decide) hl)
      have hlen2 : 53 < blen x → 9007199254740992 ≤ x := fun hl => by
        have h0 : x ≠ 0 := by intro h0; rw [h0] at hl; revert hl; decide
        have hb := (blen_spec h0).2.1
        exact Nat.le_trans (by rw [← e53]; exact Nat.pow_le_pow_right (by decide) (by omega)) hb
      have T1 : nearT z true false = rup z := rfl
      have T2 : nearT z false false = -(rup (-z)) := rfl
      have even : 9007199254740992 ≤ x → x % 2 = 0 := fun h => exq_even hx hq (by omega)
      have rough : ∀ v : Nat, 9007199254740992 < v → v % 2 = 1 → exq v = false := fun v h1 h2 => by
        by_cases hv : v < 2 ^ 256
        · exact exq_odd hv (by omega) h2
        · cases hv2 : exq v with
          | false => rfl
          | true =>
            exfalso
            unfold exq at hv2
            have hv3 := of_decide_eq_true hv2
            have h0 : v ≠ 0 := by omega
            have htz : tz v ≤ 0 := by
              have : v = 2 ^ 0 * (2 * (v / 2) + 1) := by omega
              unfold tz
              rw [if_neg h0]
              unfold Lib.ctzFrom
              simp [h2]
            have hb := (blen_spec h0).2.2
            have hle : 2 ^ blen v ≤ 2 ^ 53 := Nat.pow_le_pow_right (by decide) (by omega)
            have : (2 : Nat) ^ 53 ≤ 2 ^ 256 := Nat.pow_le_pow_right (by decide) (by decide)
            omega
      have ko : exq (nearT z up false).natAbs = false → ∀ W, Calls Tryd.prog 92 #[I5 h y, .bool (decide ((nearT z up false).natAbs < 2 ^ 256)), .bool up] W fun e w' => e = .returned (.tuple #[I5 h y, .bool (decide ((nearT z up false).natAbs < 2 ^ 256))]) ∧ Below W.heap.size W w' := fun ho W => rodd_zn up hy hyt ho W
      cases g <;> cases up
      · simp only [Bool.false_eq_true, if_false] at ez
        by_cases hc : x < 9007199254740993
        · exact rnear_turn_false x hx h _ _ _ _ _ (-1) (rcv_lt hc) (by decide) w k1 k2 (key true _ (by rw [T2, rupp _ hn2, if_pos (by omega)]; rfl))
        · have hev := even (by omega)
          have ht : nearT z false false = ((x - 1 : Nat) : Int) := by rw [T2, rupp _ hn2, if_neg (by omega)]; omega
          exact rnear_less_false x hx h _ _ _ _ _ (rcv x 9007199254740993) rfl (by unfold rcv; rw [if_neg hc]; split <;> decide) (by omega) w k1 k2 (key false _ (by rw [ht]; simp)) (ko (by rw [ht, Int.natAbs_natCast]; exact rough _ (by omega) (by omega)))
      · simp only [Bool.false_eq_true, if_false] at ez
        by_cases hl : blen x ≤ 53
        · exact rnear_least_false x hx h _ _ _ _ _ (blen x) (by omega) w k1 k2 klen (key false _ (by have := hlen hl; rw [T1, rupp _ hn, if_pos (by omega)]; rfl))
        · have hx53 := hlen2 (by omega)
          have hev := even hx53
          have ht : nearT z true false = ((x + 1 : Nat) : Int) := by
            rw [T1, rupp _ hn]
            by_cases he : x ≤ 9007199254740992
            · rw [if_pos he]; omega
            · rw [if_neg he]; omega
          exact rnear_grow_false x hx h _ _ _ _ _ (blen x) (by omega) w k1 k2 klen (key false _ (by rw [ht]; simp)) (ko (by rw [ht, Int.natAbs_natCast]; exact rough _ (by omega) (by omega)))
      · simp only [if_true] at ez
        by_cases hl : blen x ≤ 53
        · exact rnear_least_true x hx h _ _ _ _ _ (blen x) (by omega) w k1 k2 klen (key true _ (by have := hlen hl; rw [T2, rupp _ hn2, if_pos (by omega)]; rfl))
        · have hx53 := hlen2 (by omega)
          have hev := even hx53
          have ht : nearT z false false = -((x + 1 : Nat) : Int) := by
            rw [T2, rupp _ hn2]
            by_cases he : x ≤ 9007199254740992
            · rw [if_pos he]; omega
            · rw [if_neg he]; omega
          exact rnear_grow_true x hx h _ _ _ _ _ (blen x) (by omega) w k1 k2 klen (key true _ (by rw [ht]; simp)) (ko (by rw [ht, Int.natAbs_neg, Int.natAbs_natCast]; exact rough _ (by omega) (by omega)))
      · simp only [if_true] at ez
        by_cases hc : x < 9007199254740993
        · exact rnear_turn_true x hx h _ _ _ _ _ (-1) (rcv_lt hc) (by decide) w k1 k2 (key false _ (by rw [T1, rupp _ hn, if_pos (by omega)]; rfl))
        · have hev := even (by omega)
          have ht : nearT z true false = -((x - 1 : Nat) : Int) := by rw [T1, rupp _ hn, if_neg (by omega)]; omega
          exact rnear_less_true x hx h _ _ _ _ _ (rcv x 9007199254740993) rfl (by unfold rcv; rw [if_neg hc]; split <;> decide) (by omega) w k1 k2 (key true _ (by rw [ht]; simp)) (ko (by rw [ht, Int.natAbs_neg, Int.natAbs_natCast]; exact rough _ (by omega) (by omega)))
theorem eq5_ours (c : Bool) (v : Nat) (h : v < 2 ^ 256) : eq5 c (lb 0 v) (lb 1 v) (lb 2 v) (lb 3 v) c (lb 0 v) (lb 1 v) (lb 2 v) (lb 3 v) = true := by
  rw [eq5_int c c v v h h]; exact decide_eq_true ⟨rfl, rfl⟩
theorem wexact_any (g : Bool) (x : Nat) (hx : x < 2 ^ 256) (w : World) (hT : Tabs w) :
    Calls Tryd.prog 7 #[I5 g x] w fun e w' => e = .returned (.bool true) ∧ Below w.heap.size w w' := by
  by_cases hg : g = true ∧ x = 0
  · obtain ⟨rfl, rfl⟩ := hg
    have kz : ∀ (f : FuncId) (l : Array Value) (W : World), (Calls Tryd.prog f l W fun e w' => e = .returned (.tuple #[Z5, .bool false]) ∧ Below W.heap.size W w') → Calls Tryd.prog f l W fun e w' => e = .returned (.tuple #[I5 false 0, .bool false]) ∧ Below W.heap.size W w' := fun f l W k => by
      unfold I5
      simp only [lb_zero]
      exact k
    have q := eq5_ours false 0 (by decide)
    have kn : ∀ up ex W, Calls Tryd.prog 49 #[I5 true 0, .bool up, .bool ex] W fun e w' => e = .returned (.tuple #[Z5, .bool false]) ∧ Below W.heap.size W w' := fun up ex W => rnear_bad true up ex 0 (by decide) W (fun W => rmay_none W)
    exact exact_core true false false false false false false false false false 0 0 0 0 0 w hT q q q q
      (fun W _ => kz _ _ W (exup_bad W)) (fun W => kz _ _ W (kn _ _ W)) (fun W _ => kz _ _ W (edown_bad W)) (fun W => kz _ _ W (kn _ _ W)) (fun W _ => kz _ _ W (roup_bad W)) (fun W => kz _ _ W (kn _ _ W)) (fun W _ => kz _ _ W (rdown_bad W)) (fun W => kz _ _ W (kn _ _ W))
      (fun W _ => exact_bad W) (fun W => rex_bad true 0 (by decide) W (fun W => rmay_none W))
  · obtain ⟨z, ez⟩ : ∃ z : Int, z = if g then -(x : Int) else x := ⟨_, rfl⟩
    have hn : z.natAbs = x := by rw [ez]; split <;> omega
    have hz : z.natAbs < 2 ^ 256 := by omega
    have hI : Iz z = I5 g x := by
      rw [ez]
      cases g with
      | false => exact Iz_nat x
      | true => exact Iz_neg (fun h0 => hg ⟨rfl, h0⟩)
    obtain ⟨ag, an, ha, ea, _⟩ := znum_fm (nearT z true true)
    obtain ⟨bg, bn, hb, eb, _⟩ := znum_fm (nearT z false true)
    obtain ⟨cg, cn, hc, ec, _⟩ := znum_fm (nearT z true false)
    obtain ⟨dg, dn, hd, ed, _⟩ := znum_fm (nearT z false false)
    have kn := fun up ex W => rnear_z g x hx hg z ez up ex W
    have k2 := kn true true; have k4 := kn false true; have k6 := kn true false; have k8 := kn false false
    rw [ea] at k2; rw [eb] at k4; rw [ec] at k6; rw [ed] at k8
    have k1 := fun W (hW : Tb W) => exup_z z hz W hW
    have k3 := fun W (hW : Tb W) => edown_z z hz W hW
    have k5 := fun W (hW : Tb W) => roup_z z hz W hW
    have k7 := fun W (hW : Tb W) => rdown_z z hz W hW
    rw [show eup z = nearT z true true from rfl, ea, hI] at k1
    rw [show -(eup (-z)) = nearT z false true from rfl, eb, hI] at k3
    rw [show rup z = nearT z true false from rfl, ec, hI] at k5
    rw [show -(rup (-z)) = nearT z false false from rfl, ed, hI] at k7
    have k9 := fun W (hW : Tb W) => exact_z z hz W hW
    rw [hI, hn] at k9
    exact exact_core g ag bg cg dg _ _ _ _ (exq x) x an bn cn dn w hT (eq5_ours ag an ha) (eq5_ours bg bn hb) (eq5_ours cg cn hc) (eq5_ours dg dn hd) k1 k2 k3 k4 k5 k6 k7 k8 k9 (fun W => rexq g x hx hg W)
end Go.Proofs.YtngmdncidieclaaDoor
end
