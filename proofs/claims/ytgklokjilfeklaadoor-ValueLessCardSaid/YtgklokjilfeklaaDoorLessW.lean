/-
  entrepotlaw6.ValueLess answers true for any three values.
-/
import Derived.Test.YtgklokjilfeklaaDoorValCmpT
import Derived.Test.YtgklokjilfeklaaDoorValOrd
import Derived.Test.YtgklokjilfeklaaDoorR6Long
namespace Go.Proofs.YtgklokjilfeklaaDoor
open Go.RowKit Go.Shelf
open Go.Sort (grow)

theorem row10_new3 (w : World) (o o' : Obj) (v0 v1 v2 v3 v4 v5 v6 v7 v8 v9 : Value) : Row10 (((w.alloc o).alloc o').alloc (.cells #[v0, v1, v2, v3, v4, v5, v6, v7, v8, v9] 30)) (w.heap.size + 2) v0 v1 v2 v3 v4 v5 v6 v7 v8 v9 := by
  have h := row10_new2 (w.alloc o) o' v0 v1 v2 v3 v4 v5 v6 v7 v8 v9
  have hs : (w.alloc o).heap.size = w.heap.size + 1 := by simp
  rwa [hs] at h
set_option maxRecDepth 100000 in
set_option maxHeartbeats 4000000 in
theorem less_told1 (kdA : Int) (gA : Bool) (x0A x1A x2A x3A bA : Int) (sA : ByteArray) (laA : Option Addr) (nA lcA : Nat) (kaA : Option Addr) (mA kcA : Nat) (kdB : Int) (gB : Bool) (x0B x1B x2B x3B bB : Int) (sB : ByteArray) (laB : Option Addr) (nB lcB : Nat) (kaB : Option Addr) (mB kcB : Nat) (kdC : Int) (gC : Bool) (x0C x1C x2C x3C bC : Int) (sC : ByteArray) (laC : Option Addr) (nC lcC : Nat) (kaC : Option Addr) (mC kcC : Nat) (w : World) (hT : Tb w)
    (k1 : ∀ W, Below w.heap.size w W → Calls Tryd.prog 9 #[V10 kdA gA x0A x1A x2A x3A bA sA laA nA lcA kaA mA kcA] W fun e w' => e = .returned (.bool false) ∧ Below W.heap.size W w') :
    Calls Tryd.prog 3 #[V10 kdA gA x0A x1A x2A x3A bA sA laA nA lcA kaA mA kcA, V10 kdB gB x0B x1B x2B x3B bB sB laB nB lcB kaB mB kcB, V10 kdC gC x0C x1C x2C x3C bC sC laC nC lcC kaC mC kcC] w fun e w' => e = .returned (.bool true) ∧ Below w.heap.size w w' := by
  have HT := Lib.hid hT
  have K1 := Lib.hid k1
  clear hT k1
  go_enter Tryd.func3, Tryd.ntmps3
  go_upto_region 1 with (fail)
  go_name_world w1 hw1
  have B1 := Lib.hid (show Below w.heap.size w w1 from by rw [← hw1]; repeat (first | (with_reducible exact Below.refl _ _) | (with_reducible refine bal ?_ _) | (with_reducible refine Below.drew ?_) | (with_reducible refine bdn ?_ _)))
  have XA1 : Row10 w1 w.heap.size (.int .i64 kdA) (.bool gA) (.int .u64 x0A) (.int .u64 x1A) (.int .u64 x2A) (.int .u64 x3A) (.int .u64 bA) (.string sA) (.slice laA nA lcA) (.slice kaA mA kcA) := by rw [← hw1]; exact Row10.alloc (Row10.alloc (Row10.new _ _ _ _ _ _ _ _ _ _ _) _) _
  have XB1 : Row10 w1 (w.heap.size + 1) (.int .i64 kdB) (.bool gB) (.int .u64 x0B) (.int .u64 x1B) (.int .u64 x2B) (.int .u64 x3B) (.int .u64 bB) (.string sB) (.slice laB nB lcB) (.slice kaB mB kcB) := by rw [← hw1]; exact Row10.alloc (row10_new2 _ _ _ _ _ _ _ _ _ _ _ _) _
  have XC1 : Row10 w1 (w.heap.size + 2) (.int .i64 kdC) (.bool gC) (.int .u64 x0C) (.int .u64 x1C) (.int .u64 x2C) (.int .u64 x3C) (.int .u64 bC) (.string sC) (.slice laC nC lcC) (.slice kaC mC kcC) := by rw [← hw1]; exact row10_new3 _ _ _ _ _ _ _ _ _ _ _ _ _
  clear hw1
  obtain ⟨pA0, pA1, pA2, pA3, pA4, pA5, pA6, pA7, pA8, pA9⟩ := XA1.parts
  go_wp2_with fail
  ((with_reducible refine (K1.out _ B1.out).mono ?_); rintro e w2 ⟨rfl, hb⟩)
  have B2 := Lib.hid (btr B1.out hb); have XA2 := Row10.keep hb XA1; have XB2 := Row10.keep hb XB1; have XC2 := Row10.keep hb XC1
  clear hb B1 XA1 XB1 XC1
  clear pA0 pA1 pA2 pA3 pA4 pA5 pA6 pA7 pA8 pA9
  go_wp2_with (go_at_call 11; ((with_reducible refine (told6_true _ (tb_on HT.out B2.out)).mono ?_); rintro e w9 ⟨rfl, hb⟩))
  go_ret
  exact ⟨rfl, btr B2.out hb⟩
set_option maxRecDepth 100000 in
set_option maxHeartbeats 4000000 in
theorem less_told2 (kdA : Int) (gA : Bool) (x0A x1A x2A x3A bA : Int) (sA : ByteArray) (laA : Option Addr) (nA lcA : Nat) (kaA : Option Addr) (mA kcA : Nat) (kdB : Int) (gB : Bool) (x0B x1B x2B x3B bB : Int) (sB : ByteArray) (laB : Option Addr) (nB lcB : Nat) (kaB : Option Addr) (mB kcB : Nat) (kdC : Int) (gC : Bool) (x0C x1C x2C x3C bC : Int) (sC : ByteArray) (laC : Option Addr) (nC lcC : Nat) (kaC : Option Addr) (mC kcC : Nat) (w : World) (hT : Tb w)
    (k1 : ∀ W, Below w.heap.size w W → Calls Tryd.prog 9 #[V10 kdA gA x0A x1A x2A x3A bA sA laA nA lcA kaA mA kcA] W fun e w' => e = .returned (.bool true) ∧ Below W.heap.size W w')
    (k2 : ∀ W, Below w.heap.size w W → Calls Tryd.prog 9 #[V10 kdB gB x0B x1B x2B x3B bB sB laB nB lcB kaB mB kcB] W fun e w' => e = .returned (.bool false) ∧ Below W.heap.size W w') :
    Calls Tryd.prog 3 #[V10 kdA gA x0A x1A x2A x3A bA sA laA nA lcA kaA mA kcA, V10 kdB gB x0B x1B x2B x3B bB sB laB nB lcB kaB mB kcB, V10 kdC gC x0C x1C x2C x3C bC sC laC nC lcC kaC mC kcC] w fun e w' => e = .returned (.bool true) ∧ Below w.heap.size w w' := by
  have HT := Lib.hid hT
  have K1 := Lib.hid k1; have K2 := Lib.hid k2
  clear hT k1 k2
  go_enter Tryd.func3, Tryd.ntmps3
  go_upto_region 1 with (fail)
  go_name_world w1 hw1
  have B1 := Lib.hid (show Below w.heap.size w w1 from by rw [← hw1]; repeat (first | (with_reducible exact Below.refl _ _) | (with_reducible refine bal ?_ _) | (with_reducible refine Below.drew ?_) | (with_reducible refine bdn ?_ _)))
  have XA1 : Row10 w1 w.heap.size (.int .i64 kdA) (.bool gA) (.int .u64 x0A) (.int .u64 x1A) (.int .u64 x2A) (.int .u64 x3A) (.int .u64 bA) (.string sA) (.slice laA nA lcA) (.slice kaA mA kcA) := by rw [← hw1]; exact Row10.alloc (Row10.alloc (Row10.new _ _ _ _ _ _ _ _ _ _ _) _) _
  have XB1 : Row10 w1 (w.heap.size + 1) (.int .i64 kdB) (.bool gB) (.int .u64 x0B) (.int .u64 x1B) (.int .u64 x2B) (.int .u64 x3B) (.int .u64 bB) (.string sB) (.slice laB nB lcB) (.slice kaB mB kcB) := by rw [← hw1]; exact Row10.alloc (row10_new2 _ _ _ _ _ _ _ _ _ _ _ _) _
  have XC1 : Row10 w1 (w.heap.size + 2) (.int .i64 kdC) (.bool gC) (.int .u64 x0C) (.int .u64 x1C) (.int .u64 x2C) (.int .u64 x3C) (.int .u64 bC) (.string sC) (.slice laC nC lcC) (.slice kaC mC kcC) := by rw [← hw1]; exact row10_new3 _ _ _ _ _ _ _ _ _ _ _ _ _
  clear hw1
  obtain ⟨pA0, pA1, pA2, pA3, pA4, pA5, pA6, pA7, pA8, pA9⟩ := XA1.parts
  go_wp2_with fail
  ((with_reducible refine (K1.out _ B1.out).mono ?_); rintro e w2 ⟨rfl, hb⟩)
  have B2 := Lib.hid (btr B1.out hb); have XA2 := Row10.keep hb XA1; have XB2 := Row10.keep hb XB1; have XC2 := Row10.keep hb XC1
  clear hb B1 XA1 XB1 XC1
  clear pA0 pA1 pA2 pA3 pA4 pA5 pA6 pA7 pA8 pA9
  obtain ⟨pB0, pB1, pB2, pB3, pB4, pB5, pB6, pB7, pB8, pB9⟩ := XB2.parts
  go_wp2_with fail
  ((with_reducible refine (K2.out _ B2.out).mono ?_); rintro e w3 ⟨rfl, hb⟩)
  have B3 := Lib.hid (btr B2.out hb); have XA3 := Row10.keep hb XA2; have XB3 := Row10.keep hb XB2; have XC3 := Row10.keep hb XC2
  clear hb B2 XA2 XB2 XC2
  clear pB0 pB1 pB2 pB3 pB4 pB5 pB6 pB7 pB8 pB9
  go_wp2_with (go_at_call 11; ((with_reducible refine (told6_true _ (tb_on HT.out B3.out)).mono ?_); rintro e w9 ⟨rfl, hb⟩))
  go_ret
  exact ⟨rfl, btr B3.out hb⟩
set_option maxRecDepth 100000 in
set_option maxHeartbeats 4000000 in
theorem less_told3 (kdA : Int) (gA : Bool) (x0A x1A x2A x3A bA : Int) (sA : ByteArray) (laA : Option Addr) (nA lcA : Nat) (kaA : Option Addr) (mA kcA : Nat) (kdB : Int) (gB : Bool) (x0B x1B x2B x3B bB : Int) (sB : ByteArray) (laB : Option Addr) (nB lcB : Nat) (kaB : Option Addr) (mB kcB : Nat) (kdC : Int) (gC : Bool) (x0C x1C x2C x3C bC : Int) (sC : ByteArray) (laC : Option Addr) (nC lcC : Nat) (kaC : Option Addr) (mC kcC : Nat) (w : World) (hT : Tb w)
    (k1 : ∀ W, Below w.heap.size w W → Calls Tryd.prog 9 #[V10 kdA gA x0A x1A x2A x3A bA sA laA nA lcA kaA mA kcA] W fun e w' => e = .returned (.bool true) ∧ Below W.heap.size W w')
    (k2 : ∀ W, Below w.heap.size w W → Calls Tryd.prog 9 #[V10 kdB gB x0B x1B x2B x3B bB sB laB nB lcB kaB mB kcB] W fun e w' => e = .returned (.bool true) ∧ Below W.heap.size W w')
    (k3 : ∀ W, Below w.heap.size w W → Calls Tryd.prog 9 #[V10 kdC gC x0C x1C x2C x3C bC sC laC nC lcC kaC mC kcC] W fun e w' => e = .returned (.bool false) ∧ Below W.heap.size W w') :
    Calls Tryd.prog 3 #[V10 kdA gA x0A x1A x2A x3A bA sA laA nA lcA kaA mA kcA, V10 kdB gB x0B x1B x2B x3B bB sB laB nB lcB kaB mB kcB, V10 kdC gC x0C x1C x2C x3C bC sC laC nC lcC kaC mC kcC] w fun e w' => e = .returned (.bool true) ∧ Below w.heap.size w w' := by
  have HT := Lib.hid hT
  have K1 := Lib.hid k1; have K2 := Lib.hid k2; have K3 := Lib.hid k3
  clear hT k1 k2 k3
  go_enter Tryd.func3, Tryd.ntmps3
  go_upto_region 1 with (fail)
  go_name_world w1 hw1
  have B1 := Lib.hid (show Below w.heap.size w w1 from by rw [← hw1]; repeat (first | (with_reducible exact Below.refl _ _) | (with_reducible refine bal ?_ _) | (with_reducible refine Below.drew ?_) | (with_reducible refine bdn ?_ _)))
  have XA1 : Row10 w1 w.heap.size (.int .i64 kdA) (.bool gA) (.int .u64 x0A) (.int .u64 x1A) (.int .u64 x2A) (.int .u64 x3A) (.int .u64 bA) (.string sA) (.slice laA nA lcA) (.slice kaA mA kcA) := by rw [← hw1]; exact Row10.alloc (Row10.alloc (Row10.new _ _ _ _ _ _ _ _ _ _ _) _) _
  have XB1 : Row10 w1 (w.heap.size + 1) (.int .i64 kdB) (.bool gB) (.int .u64 x0B) (.int .u64 x1B) (.int .u64 x2B) (.int .u64 x3B) (.int .u64 bB) (.string sB) (.slice laB nB lcB) (.slice kaB mB kcB) := by rw [← hw1]; exact Row10.alloc (row10_new2 _ _ _ _ _ _ _ _ _ _ _ _) _
  have XC1 : Row10 w1 (w.heap.size + 2) (.int .i64 kdC) (.bool gC) (.int .u64 x0C) (.int .u64 x1C) (.int .u64 x2C) (.int .u64 x3C) (.int .u64 bC) (.string sC) (.slice laC nC lcC) (.slice kaC mC kcC) := by rw [← hw1]; exact row10_new3 _ _ _ _ _ _ _ _ _ _ _ _ _
  clear hw1
  obtain ⟨pA0, pA1, pA2, pA3, pA4, pA5, pA6, pA7, pA8, pA9⟩ := XA1.parts
  go_wp2_with fail
  ((with_reducible refine (K1.out _ B1.out).mono ?_); rintro e w2 ⟨rfl, hb⟩)
  have B2 := Lib.hid (btr B1.out hb); have XA2 := Row10.keep hb XA1; have XB2 := Row10.keep hb XB1; have XC2 := Row10.keep hb XC1
  clear hb B1 XA1 XB1 XC1
  clear pA0 pA1 pA2 pA3 pA4 pA5 pA6 pA7 pA8 pA9
  obtain ⟨pB0, pB1, pB2, pB3, pB4, pB5, pB6, pB7, pB8, pB9⟩ := XB2.parts
  go_wp2_with fail
  ((with_reducible refine (K2.out _ B2.out).mono ?_); rintro e w3 ⟨rfl, hb⟩)
  have B3 := Lib.hid (btr B2.out hb); have XA3 := Row10.keep hb XA2; have XB3 := Row10.keep hb XB2; have XC3 := Row10.keep hb XC2
  clear hb B2 XA2 XB2 XC2
  clear pB0 pB1 pB2 pB3 pB4 pB5 pB6 pB7 pB8 pB9
  obtain ⟨pC0, pC1, pC2, pC3, pC4, pC5, pC6, pC7, pC8, pC9⟩ := XC3.parts
  go_wp2_with fail
  ((with_reducible refine (K3.out _ B3.out).mono ?_); rintro e w4 ⟨rfl, hb⟩)
  have B4 := Lib.hid (btr B3.out hb); have XA4 := Row10.keep hb XA3; have XB4 := Row10.keep hb XB3; have XC4 := Row10.keep hb XC3
  clear hb B3 XA3 XB3 XC3
  clear pC0 pC1 pC2 pC3 pC4 pC5 pC6 pC7 pC8 pC9
  go_wp2_with (go_at_call 11; ((with_reducible refine (told6_true _ (tb_on HT.out B4.out)).mono ?_); rintro e w9 ⟨rfl, hb⟩))
  go_ret
  exact ⟨rfl, btr B4.out hb⟩
set_option maxRecDepth 100000 in
set_option maxHeartbeats 4000000 in
theorem less_told4 (kdA : Int) (gA : Bool) (x0A x1A x2A x3A bA : Int) (sA : ByteArray) (laA : Option Addr) (nA lcA : Nat) (kaA : Option Addr) (mA kcA : Nat) (kdB : Int) (gB : Bool) (x0B x1B x2B x3B bB : Int) (sB : ByteArray) (laB : Option Addr) (nB lcB : Nat) (kaB : Option Addr) (mB kcB : Nat) (kdC : Int) (gC : Bool) (x0C x1C x2C x3C bC : Int) (sC : ByteArray) (laC : Option Addr) (nC lcC : Nat) (kaC : Option Addr) (mC kcC : Nat) (w : World) (hT : Tb w) (z : Int) (hz : (z != 0) = true)
    (k1 : ∀ W, Below w.heap.size w W → Calls Tryd.prog 9 #[V10 kdA gA x0A x1A x2A x3A bA sA laA nA lcA kaA mA kcA] W fun e w' => e = .returned (.bool true) ∧ Below W.heap.size W w')
    (k2 : ∀ W, Below w.heap.size w W → Calls Tryd.prog 9 #[V10 kdB gB x0B x1B x2B x3B bB sB laB nB lcB kaB mB kcB] W fun e w' => e = .returned (.bool true) ∧ Below W.heap.size W w')
    (k3 : ∀ W, Below w.heap.size w W → Calls Tryd.prog 9 #[V10 kdC gC x0C x1C x2C x3C bC sC laC nC lcC kaC mC kcC] W fun e w' => e = .returned (.bool true) ∧ Below W.heap.size W w')
    (k4 : ∀ W, Below w.heap.size w W → Calls Tryd.prog 10 #[V10 kdA gA x0A x1A x2A x3A bA sA laA nA lcA kaA mA kcA] W fun e w' => e = .returned (.int .i64 z) ∧ Below W.heap.size W w') :
    Calls Tryd.prog 3 #[V10 kdA gA x0A x1A x2A x3A bA sA laA nA lcA kaA mA kcA, V10 kdB gB x0B x1B x2B x3B bB sB laB nB lcB kaB mB kcB, V10 kdC gC x0C x1C x2C x3C bC sC laC nC lcC kaC mC kcC] w fun e w' => e = .returned (.bool true) ∧ Below w.heap.size w w' := by
  have HT := Lib.hid hT
  have K1 := Lib.hid k1; have K2 := Lib.hid k2; have K3 := Lib.hid k3; have K4 := Lib.hid k4
  clear hT k1 k2 k3 k4
  go_enter Tryd.func3, Tryd.ntmps3
  go_upto_region 1 with (fail)
  go_name_world w1 hw1
  have B1 := Lib.hid (show Below w.heap.size w w1 from by rw [← hw1]; repeat (first | (with_reducible exact Below.refl _ _) | (with_reducible refine bal ?_ _) | (with_reducible refine Below.drew ?_) | (with_reducible refine bdn ?_ _)))
  have XA1 : Row10 w1 w.heap.size (.int .i64 kdA) (.bool gA) (.int .u64 x0A) (.int .u64 x1A) (.int .u64 x2A) (.int .u64 x3A) (.int .u64 bA) (.string sA) (.slice laA nA lcA) (.slice kaA mA kcA) := by rw [← hw1]; exact Row10.alloc (Row10.alloc (Row10.new _ _ _ _ _ _ _ _ _ _ _) _) _
  have XB1 : Row10 w1 (w.heap.size + 1) (.int .i64 kdB) (.bool gB) (.int .u64 x0B) (.int .u64 x1B) (.int .u64 x2B) (.int .u64 x3B) (.int .u64 bB) (.string sB) (.slice laB nB lcB) (.slice kaB mB kcB) := by rw [← hw1]; exact Row10.alloc (row10_new2 _ _ _ _ _ _ _ _ _ _ _ _) _
  have XC1 : Row10 w1 (w.heap.size + 2) (.int .i64 kdC) (.bool gC) (.int .u64 x0C) (.int .u64 x1C) (.int .u64 x2C) (.int .u64 x3C) (.int .u64 bC) (.string sC) (.slice laC nC lcC) (.slice kaC mC kcC) := by rw [← hw1]; exact row10_new3 _ _ _ _ _ _ _ _ _ _ _ _ _
  clear hw1
  obtain ⟨pA0, pA1, pA2, pA3, pA4, pA5, pA6, pA7, pA8, pA9⟩ := XA1.parts
  go_wp2_with fail
  ((with_reducible refine (K1.out _ B1.out).mono ?_); rintro e w2 ⟨rfl, hb⟩)
  have B2 := Lib.hid (btr B1.out hb); have XA2 := Row10.keep hb XA1; have XB2 := Row10.keep hb XB1; have XC2 := Row10.keep hb XC1
  clear hb B1 XA1 XB1 XC1
  clear pA0 pA1 pA2 pA3 pA4 pA5 pA6 pA7 pA8 pA9
  obtain ⟨pB0, pB1, pB2, pB3, pB4, pB5, pB6, pB7, pB8, pB9⟩ := XB2.parts
  go_wp2_with fail
  ((with_reducible refine (K2.out _ B2.out).mono ?_); rintro e w3 ⟨rfl, hb⟩)
  have B3 := Lib.hid (btr B2.out hb); have XA3 := Row10.keep hb XA2; have XB3 := Row10.keep hb XB2; have XC3 := Row10.keep hb XC2
  clear hb B2 XA2 XB2 XC2
  clear pB0 pB1 pB2 pB3 pB4 pB5 pB6 pB7 pB8 pB9
  obtain ⟨pC0, pC1, pC2, pC3, pC4, pC5, pC6, pC7, pC8, pC9⟩ := XC3.parts
  go_wp2_with fail
  ((with_reducible refine (K3.out _ B3.out).mono ?_); rintro e w4 ⟨rfl, hb⟩)
  have B4 := Lib.hid (btr B3.out hb); have XA4 := Row10.keep hb XA3; have XB4 := Row10.keep hb XB3; have XC4 := Row10.keep hb XC3
  clear hb B3 XA3 XB3 XC3
  clear pC0 pC1 pC2 pC3 pC4 pC5 pC6 pC7 pC8 pC9
  obtain ⟨pA0, pA1, pA2, pA3, pA4, pA5, pA6, pA7, pA8, pA9⟩ := XA4.parts
  go_wp2_with fail
  ((with_reducible refine (K4.out _ B4.out).mono ?_); rintro e w5 ⟨rfl, hb⟩)
  have B5 := Lib.hid (btr B4.out hb); have XA5 := Row10.keep hb XA4; have XB5 := Row10.keep hb XB4; have XC5 := Row10.keep hb XC4
  clear hb B4 XA4 XB4 XC4
  clear pA0 pA1 pA2 pA3 pA4 pA5 pA6 pA7 pA8 pA9
  go_wp2_with (go_at_call 11; ((with_reducible refine (told6_true _ (tb_on HT.out B5.out)).mono ?_); rintro e w9 ⟨rfl, hb⟩))
  go_ret
  exact ⟨rfl, btr B5.out hb⟩
set_option maxRecDepth 100000 in
set_option maxHeartbeats 4000000 in
theorem less_told5 (kdA : Int) (gA : Bool) (x0A x1A x2A x3A bA : Int) (sA : ByteArray) (laA : Option Addr) (nA lcA : Nat) (kaA : Option Addr) (mA kcA : Nat) (kdB : Int) (gB : Bool) (x0B x1B x2B x3B bB : Int) (sB : ByteArray) (laB : Option Addr) (nB lcB : Nat) (kaB : Option Addr) (mB kcB : Nat) (kdC : Int) (gC : Bool) (x0C x1C x2C x3C bC : Int) (sC : ByteArray) (laC : Option Addr) (nC lcC : Nat) (kaC : Option Addr) (mC kcC : Nat) (w : World) (hT : Tb w) (z : Int) (hz : (z != 0) = true)
    (k1 : ∀ W, Below w.heap.size w W → Calls Tryd.prog 9 #[V10 kdA gA x0A x1A x2A x3A bA sA laA nA lcA kaA mA kcA] W fun e w' => e = .returned (.bool true) ∧ Below W.heap.size W w')
    (k2 : ∀ W, Below w.heap.size w W → Calls Tryd.prog 9 #[V10 kdB gB x0B x1B x2B x3B bB sB laB nB lcB kaB mB kcB] W fun e w' => e = .returned (.bool true) ∧ Below W.heap.size W w')
    (k3 : ∀ W, Below w.heap.size w W → Calls Tryd.prog 9 #[V10 kdC gC x0C x1C x2C x3C bC sC laC nC lcC kaC mC kcC] W fun e w' => e = .returned (.bool true) ∧ Below W.heap.size W w')
    (k4 : ∀ W, Below w.heap.size w W → Calls Tryd.prog 10 #[V10 kdA gA x0A x1A x2A x3A bA sA laA nA lcA kaA mA kcA] W fun e w' => e = .returned (.int .i64 0) ∧ Below W.heap.size W w')
    (k5 : ∀ W, Below w.heap.size w W → Calls Tryd.prog 10 #[V10 kdB gB x0B x1B x2B x3B bB sB laB nB lcB kaB mB kcB] W fun e w' => e = .returned (.int .i64 z) ∧ Below W.heap.size W w') :
    Calls Tryd.prog 3 #[V10 kdA gA x0A x1A x2A x3A bA sA laA nA lcA kaA mA kcA, V10 kdB gB x0B x1B x2B x3B bB sB laB nB lcB kaB mB kcB, V10 kdC gC x0C x1C x2C x3C bC sC laC nC lcC kaC mC kcC] w fun e w' => e = .returned (.bool true) ∧ Below w.heap.size w w' := by
  have HT := Lib.hid hT
  have K1 := Lib.hid k1; have K2 := Lib.hid k2; have K3 := Lib.hid k3; have K4 := Lib.hid k4; have K5 := Lib.hid k5
  clear hT k1 k2 k3 k4 k5
  go_enter Tryd.func3, Tryd.ntmps3
  go_upto_region 1 with (fail)
  go_name_world w1 hw1
  have B1 := Lib.hid (show Below w.heap.size w w1 from by rw [← hw1]; repeat (first | (with_reducible exact Below.refl _ _) | (with_reducible refine bal ?_ _) | (with_reducible refine Below.drew ?_) | (with_reducible refine bdn ?_ _)))
  have XA1 : Row10 w1 w.heap.size (.int .i64 kdA) (.bool gA) (.int .u64 x0A) (.int .u64 x1A) (.int .u64 x2A) (.int .u64 x3A) (.int .u64 bA) (.string sA) (.slice laA nA lcA) (.slice kaA mA kcA) := by rw [← hw1]; exact Row10.alloc (Row10.alloc (Row10.new _ _ _ _ _ _ _ _ _ _ _) _) _
  have XB1 : Row10 w1 (w.heap.size + 1) (.int .i64 kdB) (.bool gB) (.int .u64 x0B) (.int .u64 x1B) (.int .u64 x2B) (.int .u64 x3B) (.int .u64 bB) (.string sB) (.slice laB nB lcB) (.slice kaB mB kcB) := by rw [← hw1]; exact Row10.alloc (row10_new2 _ _ _ _ _ _ _ _ _ _ _ _) _
  have XC1 : Row10 w1 (w.heap.size + 2) (.int .i64 kdC) (.bool gC) (.int .u64 x0C) (.int .u64 x1C) (.int .u64 x2C) (.int .u64 x3C) (.int .u64 bC) (.string sC) (.slice laC nC lcC) (.slice kaC mC kcC) := by rw [← hw1]; exact row10_new3 _ _ _ _ _ _ _ _ _ _ _ _ _
  clear hw1
  obtain ⟨pA0, pA1, pA2, pA3, pA4, pA5, pA6, pA7, pA8, pA9⟩ := XA1.parts
  go_wp2_with fail
  ((with_reducible refine (K1.out _ B1.out).mono ?_); rintro e w2 ⟨rfl, hb⟩)
  have B2 := Lib.hid (btr B1.out hb); have XA2 := Row10.keep hb XA1; have XB2 := Row10.keep hb XB1; have XC2 := Row10.keep hb XC1
  clear hb B1 XA1 XB1 XC1
  clear pA0 pA1 pA2 pA3 pA4 pA5 pA6 pA7 pA8 pA9
  obtain ⟨pB0, pB1, pB2, pB3, pB4, pB5, pB6, pB7, pB8, pB9⟩ := XB2.parts
  go_wp2_with fail
  ((with_reducible refine (K2.out _ B2.out).mono ?_); rintro e w3 ⟨rfl, hb⟩)
  have B3 := Lib.hid (btr B2.out hb); have XA3 := Row10.keep hb XA2; have XB3 := Row10.keep hb XB2; have XC3 := Row10.keep hb XC2
  clear hb B2 XA2 XB2 XC2
  clear pB0 pB1 pB2 pB3 pB4 pB5 pB6 pB7 pB8 pB9
  obtain ⟨pC0, pC1, pC2, pC3, pC4, pC5, pC6, pC7, pC8, pC9⟩ := XC3.parts
  go_wp2_with fail
  ((with_reducible refine (K3.out _ B3.out).mono ?_); rintro e w4 ⟨rfl, hb⟩)
  have B4 := Lib.hid (btr B3.out hb); have XA4 := Row10.keep hb XA3; have XB4 := Row10.keep hb XB3; have XC4 := Row10.keep hb XC3
  clear hb B3 XA3 XB3 XC3
  clear pC0 pC1 pC2 pC3 pC4 pC5 pC6 pC7 pC8 pC9
  obtain ⟨pA0, pA1, pA2, pA3, pA4, pA5, pA6, pA7, pA8, pA9⟩ := XA4.parts
  go_wp2_with fail
  ((with_reducible refine (K4.out _ B4.out).mono ?_); rintro e w5 ⟨rfl, hb⟩)
  have B5 := Lib.hid (btr B4.out hb); have XA5 := Row10.keep hb XA4; have XB5 := Row10.keep hb XB4; have XC5 := Row10.keep hb XC4
  clear hb B4 XA4 XB4 XC4
  clear pA0 pA1 pA2 pA3 pA4 pA5 pA6 pA7 pA8 pA9
  obtain ⟨pB0, pB1, pB2, pB3, pB4, pB5, pB6, pB7, pB8, pB9⟩ := XB5.parts
  go_wp2_with fail
  ((with_reducible refine (K5.out _ B5.out).mono ?_); rintro e w6 ⟨rfl, hb⟩)
  have B6 := Lib.hid (btr B5.out hb); have XA6 := Row10.keep hb XA5; have XB6 := Row10.keep hb XB5; have XC6 := Row10.keep hb XC5
  clear hb B5 XA5 XB5 XC5
  clear pB0 pB1 pB2 pB3 pB4 pB5 pB6 pB7 pB8 pB9
  go_wp2_with (go_at_call 11; ((with_reducible refine (told6_true _ (tb_on HT.out B6.out)).mono ?_); rintro e w9 ⟨rfl, hb⟩))
  go_ret
  exact ⟨rfl, btr B6.out hb⟩
set_option maxRecDepth 100000 in
set_option maxHeartbeats 4000000 in
theorem less_told6 (kdA : Int) (gA : Bool) (x0A x1A x2A x3A bA : Int) (sA : ByteArray) (laA : Option Addr) (nA lcA : Nat) (kaA : Option Addr) (mA kcA : Nat) (kdB : Int) (gB : Bool) (x0B x1B x2B x3B bB : Int) (sB : ByteArray) (laB : Option Addr) (nB lcB : Nat) (kaB : Option Addr) (mB kcB : Nat) (kdC : Int) (gC : Bool) (x0C x1C x2C x3C bC : Int) (sC : ByteArray) (laC : Option Addr) (nC lcC : Nat) (kaC : Option Addr) (mC kcC : Nat) (w : World) (hT : Tb w) (z : Int) (hz : (z != 0) = true)
    (k1 : ∀ W, Below w.heap.size w W → Calls Tryd.prog 9 #[V10 kdA gA x0A x1A x2A x3A bA sA laA nA lcA kaA mA kcA] W fun e w' => e = .returned (.bool true) ∧ Below W.heap.size W w')
    (k2 : ∀ W, Below w.heap.size w W → Calls Tryd.prog 9 #[V10 kdB gB x0B x1B x2B x3B bB sB laB nB lcB kaB mB kcB] W fun e w' => e = .returned (.bool true) ∧ Below W.heap.size W w')
    (k3 : ∀ W, Below w.heap.size w W → Calls Tryd.prog 9 #[V10 kdC gC x0C x1C x2C x3C bC sC laC nC lcC kaC mC kcC] W fun e w' => e = .returned (.bool true) ∧ Below W.heap.size W w')
    (k4 : ∀ W, Below w.heap.size w W → Calls Tryd.prog 10 #[V10 kdA gA x0A x1A x2A x3A bA sA laA nA lcA kaA mA kcA] W fun e w' => e = .returned (.int .i64 0) ∧ Below W.heap.size W w')
    (k5 : ∀ W, Below w.heap.size w W → Calls Tryd.prog 10 #[V10 kdB gB x0B x1B x2B x3B bB sB laB nB lcB kaB mB kcB] W fun e w' => e = .returned (.int .i64 0) ∧ Below W.heap.size W w')
    (k6 : ∀ W, Below w.heap.size w W → Calls Tryd.prog 10 #[V10 kdC gC x0C x1C x2C x3C bC sC laC nC lcC kaC mC kcC] W fun e w' => e = .returned (.int .i64 z) ∧ Below W.heap.size W w') :
    Calls Tryd.prog 3 #[V10 kdA gA x0A x1A x2A x3A bA sA laA nA lcA kaA mA kcA, V10 kdB gB x0B x1B x2B x3B bB sB laB nB lcB kaB mB kcB, V10 kdC gC x0C x1C x2C x3C bC sC laC nC lcC kaC mC kcC] w fun e w' => e = .returned (.bool true) ∧ Below w.heap.size w w' := by
  have HT := Lib.hid hT
  have K1 := Lib.hid k1; have K2 := Lib.hid k2; have K3 := Lib.hid k3; have K4 := Lib.hid k4; have K5 := Lib.hid k5; have K6 := Lib.hid k6
  clear hT k1 k2 k3 k4 k5 k6
  go_enter Tryd.func3, Tryd.ntmps3
  go_upto_region 1 with (fail)
  go_name_world w1 hw1
  have B1 := Lib.hid (show Below w.heap.size w w1 from by rw [← hw1]; repeat (first | (with_reducible exact Below.refl _ _) | (with_reducible refine bal ?_ _) | (with_reducible refine Below.drew ?_) | (with_reducible refine bdn ?_ _)))
  have XA1 : Row10 w1 w.heap.size (.int .i64 kdA) (.bool gA) (.int .u64 x0A) (.int .u64 x1A) (.int .u64 x2A) (.int .u64 x3A) (.int .u64 bA) (.string sA) (.slice laA nA lcA) (.slice kaA mA kcA) := by rw [← hw1]; exact Row10.alloc (Row10.alloc (Row10.new _ _ _ _ _ _ _ _ _ _ _) _) _
  have XB1 : Row10 w1 (w.heap.size + 1) (.int .i64 kdB) (.bool gB) (.int .u64 x0B) (.int .u64 x1B) (.int .u64 x2B) (.int .u64 x3B) (.int .u64 bB) (.string sB) (.slice laB nB lcB) (.slice kaB mB kcB) := by rw [← hw1]; exact Row10.alloc (row10_new2 _ _ _ _ _ _ _ _ _ _ _ _) _
  have XC1 : Row10 w1 (w.heap.size + 2) (.int .i64 kdC) (.bool gC) (.int .u64 x0C) (.int .u64 x1C) (.int .u64 x2C) (.int .u64 x3C) (.int .u64 bC) (.string sC) (.slice laC nC lcC) (.slice kaC mC kcC) := by rw [← hw1]; exact row10_new3 _ _ _ _ _ _ _ _ _ _ _ _ _
  clear hw1
  obtain ⟨pA0, pA1, pA2, pA3, pA4, pA5, pA6, pA7, pA8, pA9⟩ := XA1.parts
  go_wp2_with fail
  ((with_reducible refine (K1.out _ B1.out).mono ?_); rintro e w2 ⟨rfl, hb⟩)
  have B2 := Lib.hid (btr B1.out hb); have XA2 := Row10.keep hb XA1; have XB2 := Row10.keep hb XB1; have XC2 := Row10.keep hb XC1
  clear hb B1 XA1 XB1 XC1
  clear pA0 pA1 pA2 pA3 pA4 pA5 pA6 pA7 pA8 pA9
  obtain ⟨pB0, pB1, pB2, pB3, pB4, pB5, pB6, pB7, pB8, pB9⟩ := XB2.parts
  go_wp2_with fail
  ((with_reducible refine (K2.out _ B2.out).mono ?_); rintro e w3 ⟨rfl, hb⟩)
  have B3 := Lib.hid (btr B2.out hb); have XA3 := Row10.keep hb XA2; have XB3 := Row10.keep hb XB2; have XC3 := Row10.keep hb XC2
  clear hb B2 XA2 XB2 XC2
  clear pB0 pB1 pB2 pB3 pB4 pB5 pB6 pB7 pB8 pB9
  obtain ⟨pC0, pC1, pC2, pC3, pC4, pC5, pC6, pC7, pC8, pC9⟩ := XC3.parts
  go_wp2_with fail
  ((with_reducible refine (K3.out _ B3.out).mono ?_); rintro e w4 ⟨rfl, hb⟩)
  have B4 := Lib.hid (btr B3.out hb); have XA4 := Row10.keep hb XA3; have XB4 := Row10.keep hb XB3; have XC4 := Row10.keep hb XC3
  clear hb B3 XA3 XB3 XC3
  clear pC0 pC1 pC2 pC3 pC4 pC5 pC6 pC7 pC8 pC9
  obtain ⟨pA0, pA1, pA2, pA3, pA4, pA5, pA6, pA7, pA8, pA9⟩ := XA4.parts
  go_wp2_with fail
  ((with_reducible refine (K4.out _ B4.out).mono ?_); rintro e w5 ⟨rfl, hb⟩)
  have B5 := Lib.hid (btr B4.out hb); have XA5 := Row10.keep hb XA4; have XB5 := Row10.keep hb XB4; have XC5 := Row10.keep hb XC4
  clear hb B4 XA4 XB4 XC4
  clear pA0 pA1 pA2 pA3 pA4 pA5 pA6 pA7 pA8 pA9
  obtain ⟨pB0, pB1, pB2, pB3, pB4, pB5, pB6, pB7, pB8, pB9⟩ := XB5.parts
  go_wp2_with fail
  ((with_reducible refine (K5.out _ B5.out).mono ?_); rintro e w6 ⟨rfl, hb⟩)
  have B6 := Lib.hid (btr B5.out hb); have XA6 := Row10.keep hb XA5; have XB6 := Row10.keep hb XB5; have XC6 := Row10.keep hb XC5
  clear hb B5 XA5 XB5 XC5
  clear pB0 pB1 pB2 pB3 pB4 pB5 pB6 pB7 pB8 pB9
  obtain ⟨pC0, pC1, pC2, pC3, pC4, pC5, pC6, pC7, pC8, pC9⟩ := XC6.parts
  go_wp2_with fail
  ((with_reducible refine (K6.out _ B6.out).mono ?_); rintro e w7 ⟨rfl, hb⟩)
  have B7 := Lib.hid (btr B6.out hb); have XA7 := Row10.keep hb XA6; have XB7 := Row10.keep hb XB6; have XC7 := Row10.keep hb XC6
  clear hb B6 XA6 XB6 XC6
  clear pC0 pC1 pC2 pC3 pC4 pC5 pC6 pC7 pC8 pC9
  go_wp2_with (go_at_call 11; ((with_reducible refine (told6_true _ (tb_on HT.out B7.out)).mono ?_); rintro e w9 ⟨rfl, hb⟩))
  go_ret
  exact ⟨rfl, btr B7.out hb⟩
set_option maxRecDepth 100000 in
set_option maxHeartbeats 16000000 in
theorem less_core (kdA : Int) (gA : Bool) (x0A x1A x2A x3A bA : Int) (sA : ByteArray) (laA : Option Addr) (nA lcA : Nat) (kaA : Option Addr) (mA kcA : Nat) (kdB : Int) (gB : Bool) (x0B x1B x2B x3B bB : Int) (sB : ByteArray) (laB : Option Addr) (nB lcB : Nat) (kaB : Option Addr) (mB kcB : Nat) (kdC : Int) (gC : Bool) (x0C x1C x2C x3C bC : Int) (sC : ByteArray) (laC : Option Addr) (nC lcC : Nat) (kaC : Option Addr) (mC kcC : Nat) (w : World) (hT : Tb w) (x y z : Int) (hx : x = -1 ∨ x = 0 ∨ x = 1) (hy : y = -1 ∨ y = 0 ∨ y = 1) (hz : z = -1 ∨ z = 0 ∨ z = 1) (h1 : x = 0 → z = y) (h2 : y = 0 → z = x) (h3 : x = y → z = x)
    (k1 : ∀ W, Below w.heap.size w W → Calls Tryd.prog 9 #[V10 kdA gA x0A x1A x2A x3A bA sA laA nA lcA kaA mA kcA] W fun e w' => e = .returned (.bool true) ∧ Below W.heap.size W w')
    (k2 : ∀ W, Below w.heap.size w W → Calls Tryd.prog 9 #[V10 kdB gB x0B x1B x2B x3B bB sB laB nB lcB kaB mB kcB] W fun e w' => e = .returned (.bool true) ∧ Below W.heap.size W w')
    (k3 : ∀ W, Below w.heap.size w W → Calls Tryd.prog 9 #[V10 kdC gC x0C x1C x2C x3C bC sC laC nC lcC kaC mC kcC] W fun e w' => e = .returned (.bool true) ∧ Below W.heap.size W w')
    (k4 : ∀ W, Below w.heap.size w W → Calls Tryd.prog 10 #[V10 kdA gA x0A x1A x2A x3A bA sA laA nA lcA kaA mA kcA] W fun e w' => e = .returned (.int .i64 0) ∧ Below W.heap.size W w')
    (k5 : ∀ W, Below w.heap.size w W → Calls Tryd.prog 10 #[V10 kdB gB x0B x1B x2B x3B bB sB laB nB lcB kaB mB kcB] W fun e w' => e = .returned (.int .i64 0) ∧ Below W.heap.size W w')
    (k6 : ∀ W, Below w.heap.size w W → Calls Tryd.prog 10 #[V10 kdC gC x0C x1C x2C x3C bC sC laC nC lcC kaC mC kcC] W fun e w' => e = .returned (.int .i64 0) ∧ Below W.heap.size W w')
    (kx : ∀ W, Below w.heap.size w W → Calls Tryd.prog 12 #[V10 kdA gA x0A x1A x2A x3A bA sA laA nA lcA kaA mA kcA, V10 kdB gB x0B x1B x2B x3B bB sB laB nB lcB kaB mB kcB] W fun e w' => e = .returned (.int .i64 x) ∧ Below W.heap.size W w')
    (ky : ∀ W, Below w.heap.size w W → Calls Tryd.prog 12 #[V10 kdB gB x0B x1B x2B x3B bB sB laB nB lcB kaB mB kcB, V10 kdC gC x0C x1C x2C x3C bC sC laC nC lcC kaC mC kcC] W fun e w' => e = .returned (.int .i64 y) ∧ Below W.heap.size W w')
    (kz : ∀ W, Below w.heap.size w W → Calls Tryd.prog 12 #[V10 kdA gA x0A x1A x2A x3A bA sA laA nA lcA kaA mA kcA, V10 kdC gC x0C x1C x2C x3C bC sC laC nC lcC kaC mC kcC] W fun e w' => e = .returned (.int .i64 z) ∧ Below W.heap.size W w')
    (kn : ∀ W, Below w.heap.size w W → Calls Tryd.prog 12 #[V10 kdB gB x0B x1B x2B x3B bB sB laB nB lcB kaB mB kcB, V10 kdA gA x0A x1A x2A x3A bA sA laA nA lcA kaA mA kcA] W fun e w' => e = .returned (.int .i64 (-x)) ∧ Below W.heap.size W w')
    (ks : ∀ W, Below w.heap.size w W → Calls Tryd.prog 13 #[V10 kdA gA x0A x1A x2A x3A bA sA laA nA lcA kaA mA kcA, V10 kdB gB x0B x1B x2B x3B bB sB laB nB lcB kaB mB kcB] W fun e w' => e = .returned (.bool (decide (x = 0))) ∧ Below W.heap.size W w')
    (k0 : ∀ W, Below w.heap.size w W → Calls Tryd.prog 12 #[V10 kdA gA x0A x1A x2A x3A bA sA laA nA lcA kaA mA kcA, V10 kdA gA x0A x1A x2A x3A bA sA laA nA lcA kaA mA kcA] W fun e w' => e = .returned (.int .i64 0) ∧ Below W.heap.size W w') :
    Calls Tryd.prog 3 #[V10 kdA gA x0A x1A x2A x3A bA sA laA nA lcA kaA mA kcA, V10 kdB gB x0B x1B x2B x3B bB sB laB nB lcB kaB mB kcB, V10 kdC gC x0C x1C x2C x3C bC sC laC nC lcC kaC mC kcC] w fun e w' => e = .returned (.bool true) ∧ Below w.heap.size w w' := by
  have HT := Lib.hid hT
  have K1 := Lib.hid k1; have K2 := Lib.hid k2; have K3 := Lib.hid k3; have K4 := Lib.hid k4; have K5 := Lib.hid k5; have K6 := Lib.hid k6
  have KX := Lib.hid kx; have KY := Lib.hid ky; have KZ := Lib.hid kz; have KN := Lib.hid kn; have KS := Lib.hid ks; have K0 := Lib.hid k0
  have HYY := Lib.hid hy; have HZZ := Lib.hid hz; have H1 := Lib.hid h1; have H2 := Lib.hid h2; have H3 := Lib.hid h3
  clear hT k1 k2 k3 k4 k5 k6 kx ky kz kn ks k0 hy hz h1 h2 h3
  go_enter Tryd.func3, Tryd.ntmps3
  go_upto_region 1 with (fail)
  go_name_world w1 hw1
  have B1 := Lib.hid (show Below w.heap.size w w1 from by rw [← hw1]; repeat (first | (with_reducible exact Below.refl _ _) | (with_reducible refine bal ?_ _) | (with_reducible refine Below.drew ?_) | (with_reducible refine bdn ?_ _)))
  have XA1 : Row10 w1 w.heap.size (.int .i64 kdA) (.bool gA) (.int .u64 x0A) (.int .u64 x1A) (.int .u64 x2A) (.int .u64 x3A) (.int .u64 bA) (.string sA) (.slice laA nA lcA) (.slice kaA mA kcA) := by rw [← hw1]; exact Row10.alloc (Row10.alloc (Row10.new _ _ _ _ _ _ _ _ _ _ _) _) _
  have XB1 : Row10 w1 (w.heap.size + 1) (.int .i64 kdB) (.bool gB) (.int .u64 x0B) (.int .u64 x1B) (.int .u64 x2B) (.int .u64 x3B) (.int .u64 bB) (.string sB) (.slice laB nB lcB) (.slice kaB mB kcB) := by rw [← hw1]; exact Row10.alloc (row10_new2 _ _ _ _ _ _ _ _ _ _ _ _) _
  have XC1 : Row10 w1 (w.heap.size + 2) (.int .i64 kdC) (.bool gC) (.int .u64 x0C) (.int .u64 x1C) (.int .u64 x2C) (.int .u64 x3C) (.int .u64 bC) (.string sC) (.slice laC nC lcC) (.slice kaC mC kcC) := by rw [← hw1]; exact row10_new3 _ _ _ _ _ _ _ _ _ _ _ _ _
  clear hw1
  obtain ⟨pA0, pA1, pA2, pA3, pA4, pA5, pA6, pA7, pA8, pA9⟩ := XA1.parts
  go_wp2_with fail
  ((with_reducible refine (K1.out _ B1.out).mono ?_); rintro e w2 ⟨rfl, hb⟩)
  have B2 := Lib.hid (btr B1.out hb); have XA2 := Row10.keep hb XA1; have XB2 := Row10.keep hb XB1; have XC2 := Row10.keep hb XC1
  clear hb B1 XA1 XB1 XC1
  clear pA0 pA1 pA2 pA3 pA4 pA5 pA6 pA7 pA8 pA9
  obtain ⟨pB0, pB1, pB2, pB3, pB4, pB5, pB6, pB7, pB8, pB9⟩ := XB2.parts
  go_wp2_with fail
  ((with_reducible refine (K2.out _ B2.out).mono ?_); rintro e w3 ⟨rfl, hb⟩)
  have B3 := Lib.hid (btr B2.out hb); have XA3 := Row10.keep hb XA2; have XB3 := Row10.keep hb XB2; have XC3 := Row10.keep hb XC2
  clear hb B2 XA2 XB2 XC2
  clear pB0 pB1 pB2 pB3 pB4 pB5 pB6 pB7 pB8 pB9
  obtain ⟨pC0, pC1, pC2, pC3, pC4, pC5, pC6, pC7, pC8, pC9⟩ := XC3.parts
  go_wp2_with fail
  ((with_reducible refine (K3.out _ B3.out).mono ?_); rintro e w4 ⟨rfl, hb⟩)
  have B4 := Lib.hid (btr B3.out hb); have XA4 := Row10.keep hb XA3; have XB4 := Row10.keep hb XB3; have XC4 := Row10.keep hb XC3
  clear hb B3 XA3 XB3 XC3
  clear pC0 pC1 pC2 pC3 pC4 pC5 pC6 pC7 pC8 pC9
  obtain ⟨pA0, pA1, pA2, pA3, pA4, pA5, pA6, pA7, pA8, pA9⟩ := XA4.parts
  go_wp2_with fail
  ((with_reducible refine (K4.out _ B4.out).mono ?_); rintro e w5 ⟨rfl, hb⟩)
  have B5 := Lib.hid (btr B4.out hb); have XA5 := Row10.keep hb XA4; have XB5 := Row10.keep hb XB4; have XC5 := Row10.keep hb XC4
  clear hb B4 XA4 XB4 XC4
  clear pA0 pA1 pA2 pA3 pA4 pA5 pA6 pA7 pA8 pA9
  obtain ⟨pB0, pB1, pB2, pB3, pB4, pB5, pB6, pB7, pB8, pB9⟩ := XB5.parts
  go_wp2_with fail
  ((with_reducible refine (K5.out _ B5.out).mono ?_); rintro e w6 ⟨rfl, hb⟩)
  have B6 := Lib.hid (btr B5.out hb); have XA6 := Row10.keep hb XA5; have XB6 := Row10.keep hb XB5; have XC6 := Row10.keep hb XC5
  clear hb B5 XA5 XB5 XC5
  clear pB0 pB1 pB2 pB3 pB4 pB5 pB6 pB7 pB8 pB9
  obtain ⟨pC0, pC1, pC2, pC3, pC4, pC5, pC6, pC7, pC8, pC9⟩ := XC6.parts
  go_wp2_with fail
  ((with_reducible refine (K6.out _ B6.out).mono ?_); rintro e w7 ⟨rfl, hb⟩)
  have B7 := Lib.hid (btr B6.out hb); have XA7 := Row10.keep hb XA6; have XB7 := Row10.keep hb XB6; have XC7 := Row10.keep hb XC6
  clear hb B6 XA6 XB6 XC6
  clear pC0 pC1 pC2 pC3 pC4 pC5 pC6 pC7 pC8 pC9
  obtain ⟨pA0, pA1, pA2, pA3, pA4, pA5, pA6, pA7, pA8, pA9⟩ := XA7.parts
  obtain ⟨pB0, pB1, pB2, pB3, pB4, pB5, pB6, pB7, pB8, pB9⟩ := XB7.parts
  obtain ⟨pC0, pC1, pC2, pC3, pC4, pC5, pC6, pC7, pC8, pC9⟩ := XC7.parts
  go_upto_region 3 with (fail)
  have rA0 := cell_regrown pA0; have rA1 := cell_regrown pA1; have rA2 := cell_regrown pA2; have rA3 := cell_regrown pA3; have rA4 := cell_regrown pA4; have rA5 := cell_regrown pA5; have rA6 := cell_regrown pA6; have rA7 := cell_regrown pA7; have rA8 := cell_regrown pA8; have rA9 := cell_regrown pA9
  have rB0 := cell_regrown pB0; have rB1 := cell_regrown pB1; have rB2 := cell_regrown pB2; have rB3 := cell_regrown pB3; have rB4 := cell_regrown pB4; have rB5 := cell_regrown pB5; have rB6 := cell_regrown pB6; have rB7 := cell_regrown pB7; have rB8 := cell_regrown pB8; have rB9 := cell_regrown pB9
  have rC0 := cell_regrown pC0; have rC1 := cell_regrown pC1; have rC2 := cell_regrown pC2; have rC3 := cell_regrown pC3; have rC4 := cell_regrown pC4; have rC5 := cell_regrown pC5; have rC6 := cell_regrown pC6; have rC7 := cell_regrown pC7; have rC8 := cell_regrown pC8; have rC9 := cell_regrown pC9
  clear pA0 pA1 pA2 pA3 pA4 pA5 pA6 pA7 pA8 pA9 pB0 pB1 pB2 pB3 pB4 pB5 pB6 pB7 pB8 pB9 pC0 pC1 pC2 pC3 pC4 pC5 pC6 pC7 pC8 pC9
  have cq0 := fun (d : Nat) (os : Array Obj) => Calls.regrown_of (w := w7) (d := d) (os := os) (KX.out _ (btr B7.out (below_regrown w7 d os)))
  have cq1 := fun (d : Nat) (os : Array Obj) => Calls.regrown_of (w := w7) (d := d) (os := os) (KY.out _ (btr B7.out (below_regrown w7 d os)))
  have cq2 := fun (d : Nat) (os : Array Obj) => Calls.regrown_of (w := w7) (d := d) (os := os) (KZ.out _ (btr B7.out (below_regrown w7 d os)))
  refine wp_region_quiet_below (by kernel_rfl) (by kernel_rfl) ?_
  repeat (first | go_big_quiet_step ((first | with_reducible exact cq0 _ _ | with_reducible exact cq1 _ _ | with_reducible exact cq2 _ _)) | quiet_step (first | with_reducible exact cq0 _ _ | with_reducible exact cq1 _ _ | with_reducible exact cq2 _ _))
  refine wpQuiet_nil ?_
  intro _ hw'
  obtain ⟨⟨dq, osq⟩, hw''⟩ := hw'
  subst hw''
  clear rA0 rA1 rA2 rA3 rA4 rA5 rA6 rA7 rA8 rA9 rB0 rB1 rB2 rB3 rB4 rB5 rB6 rB7 rB8 rB9 rC0 rC1 rC2 rC3 rC4 rC5 rC6 rC7 rC8 rC9 cq0 cq1 cq2
  have hb := below_regrown w7 dq osq
  generalize grow (redrawn w7 dq) osq = w8 at *
  have B8 := Lib.hid (btr B7.out hb); have XA8 := Row10.keep hb XA7; have XB8 := Row10.keep hb XB7; have XC8 := Row10.keep hb XC7
  clear hb B7 XA7 XB7 XC7 XC8
  obtain ⟨pA0, pA1, pA2, pA3, pA4, pA5, pA6, pA7, pA8, pA9⟩ := XA8.parts
  obtain ⟨pB0, pB1, pB2, pB3, pB4, pB5, pB6, pB7, pB8, pB9⟩ := XB8.parts
  rcases hx with rfl | rfl | rfl
  all_goals
    go_wp2_with fail
    ((with_reducible refine (KN.out _ B8.out).mono ?_); rintro e w9 ⟨rfl, hb⟩)
    have B9 := Lib.hid (btr B8.out hb); have XA9 := Row10.keep hb XA8; have XB9 := Row10.keep hb XB8
    clear hb B8 XA8 XB8 pA0 pA1 pA2 pA3 pA4 pA5 pA6 pA7 pA8 pA9 pB0 pB1 pB2 pB3 pB4 pB5 pB6 pB7 pB8 pB9
    obtain ⟨pA0, pA1, pA2, pA3, pA4, pA5, pA6, pA7, pA8, pA9⟩ := XA9.parts
    obtain ⟨pB0, pB1, pB2, pB3, pB4, pB5, pB6, pB7, pB8, pB9⟩ := XB9.parts
    go_wp2_with fail
    ((with_reducible refine (KS.out _ B9.out).mono ?_); rintro e w10 ⟨rfl, hb⟩)
    have B10 := Lib.hid (btr B9.out hb); have XA10 := Row10.keep hb XA9
    clear hb B9 XA9 XB9 pA0 pA1 pA2 pA3 pA4 pA5 pA6 pA7 pA8 pA9 pB0 pB1 pB2 pB3 pB4 pB5 pB6 pB7 pB8 pB9
    obtain ⟨pA0, pA1, pA2, pA3, pA4, pA5, pA6, pA7, pA8, pA9⟩ := XA10.parts
    go_wp2_with fail
    ((with_reducible refine (K0.out _ B10.out).mono ?_); rintro e w11 ⟨rfl, hb⟩)
    have B11 := Lib.hid (btr B10.out hb)
    clear hb B10 XA10 pA0 pA1 pA2 pA3 pA4 pA5 pA6 pA7 pA8 pA9
    go_upto_region 6 with (fail)
    rcases HYY.out with rfl | rfl | rfl <;> rcases HZZ.out with rfl | rfl | rfl
  all_goals
    first
    | (exact absurd (H1.out (by decide)) (by decide))
    | (exact absurd (H2.out (by decide)) (by decide))
    | (exact absurd (H3.out (by decide)) (by decide))
    | (clear HYY HZZ H1 H2 H3
       go_wp2_with (go_at_call 11; ((with_reducible refine (told6_true _ (tb_on HT.out B11.out)).mono ?_); rintro e w12 ⟨rfl, hb⟩))
       go_ret
       exact ⟨rfl, btr B11.out hb⟩)

theorem in_fine : ∀ (T : VT) (w : World), T.In w → T.Every fun o => o.x < 2 ^ 256 := by
  intro T
  induction T using VT.ind with
  | h o kids ih =>
    intro w h
    have hwf := h.wf
    obtain ⟨_, hx, _⟩ := hwf
    exact .mk o kids hx (fun t ht => ih t ht w (h.mem ht))
theorem may_right {T : VT} (h : mayN T = 0) : hasT wrongT T = false := by
  unfold mayN at h
  by_cases h1 : 16 < T.depth
  · rw [if_pos h1] at h; cases h
  rw [if_neg h1] at h
  cases h2 : hasT overT T with
  | true => rw [h2, if_pos rfl] at h; cases h
  | false =>
    rw [h2, if_neg (by simp)] at h
    cases h3 : hasT wrongT T with
    | true => rw [h3, if_pos rfl] at h; cases h
    | false => rfl
theorem may_good {T : VT} {w : World} (hI : T.In w) (h : mayN T = 0) : Good T := ⟨may_right h, in_fine T w hI⟩
/-- The law, for any three values. -/
theorem less_any (A B C : VT) (w : World) (hA : A.In w) (hB : B.In w) (hC : C.In w) (hT : Tb w) :
    Calls Tryd.prog 3 #[A.val, B.val, C.val] w fun e w' => e = .returned (.bool true) ∧ Below w.heap.size w w' := by
  have k1 := fun W (hb : Below w.heap.size w W) => vfew A W (hA.keep hb)
  have k2 := fun W (hb : Below w.heap.size w W) => vfew B W (hB.keep hb)
  have k3 := fun W (hb : Below w.heap.size w W) => vfew C W (hC.keep hb)
  have v : ∀ T : VT, T.val = V10 T.o.kind T.o.g (lb 0 T.o.x) (lb 1 T.o.x) (lb 2 T.o.x) (lb 3 T.o.x) T.o.bits T.o.text T.o.la T.kids.length T.o.lcap T.o.ka T.o.keys.length T.o.kcap := fun T => by cases T; rfl
  cases ha : fewOk A with
  | false => rw [ha] at k1; rw [v, v, v] at *; exact less_told1 _ _ _ _ _ _ _ _ _ _ _ _ _ _ _ _ _ _ _ _ _ _ _ _ _ _ _ _ _ _ _ _ _ _ _ _ _ _ _ _ _ _ w hT k1
  | true =>
  rw [ha] at k1
  cases hb : fewOk B with
  | false => rw [hb] at k2; rw [v, v, v] at *; exact less_told2 _ _ _ _ _ _ _ _ _ _ _ _ _ _ _ _ _ _ _ _ _ _ _ _ _ _ _ _ _ _ _ _ _ _ _ _ _ _ _ _ _ _ w hT k1 k2
  | true =>
  rw [hb] at k2
  cases hc : fewOk C with
  | false => rw [hc] at k3; rw [v, v, v] at *; exact less_told3 _ _ _ _ _ _ _ _ _ _ _ _ _ _ _ _ _ _ _ _ _ _ _ _ _ _ _ _ _ _ _ _ _ _ _ _ _ _ _ _ _ _ w hT k1 k2 k3
  | true =>
  rw [hc] at k3
  obtain ⟨qA, nA, dA, tA⟩ := few_all ha hA hT
  obtain ⟨qB, nB, dB, tB⟩ := few_all hb hB hT
  obtain ⟨qC, nC, dC, tC⟩ := few_all hc hC hT
  have k4 := fun W (hb : Below w.heap.size w W) => r6may_few A W (qA.keep hb) nA dA tA
  have k5 := fun W (hb : Below w.heap.size w W) => r6may_few B W (qB.keep hb) nB dB tB
  have k6 := fun W (hb : Below w.heap.size w W) => r6may_few C W (qC.keep hb) nC dC tC
  by_cases mA : mayN A = 0
  case neg => rw [v, v, v] at *; exact less_told4 _ _ _ _ _ _ _ _ _ _ _ _ _ _ _ _ _ _ _ _ _ _ _ _ _ _ _ _ _ _ _ _ _ _ _ _ _ _ _ _ _ _ w hT _ (bne_iff_ne.2 mA) k1 k2 k3 k4
  rw [mA] at k4
  by_cases mB : mayN B = 0
  case neg => rw [v, v, v] at *; exact less_told5 _ _ _ _ _ _ _ _ _ _ _ _ _ _ _ _ _ _ _ _ _ _ _ _ _ _ _ _ _ _ _ _ _ _ _ _ _ _ _ _ _ _ w hT _ (bne_iff_ne.2 mB) k1 k2 k3 k4 k5
  rw [mB] at k5
  by_cases mC : mayN C = 0
  case neg => rw [v, v, v] at *; exact less_told6 _ _ _ _ _ _ _ _ _ _ _ _ _ _ _ _ _ _ _ _ _ _ _ _ _ _ _ _ _ _ _ _ _ _ _ _ _ _ _ _ _ _ w hT _ (bne_iff_ne.2 mC) k1 k2 k3 k4 k5 k6
  rw [mC] at k6
  have gA := may_good hA mA
  have gB := may_good hB mB
  have gC := may_good hC mC
  have kx := fun W (hb : Below w.heap.size w W) => vcmp A B W (hA.keep hb) (hB.keep hb)
  have ky := fun W (hb : Below w.heap.size w W) => vcmp B C W (hB.keep hb) (hC.keep hb)
  have kz := fun W (hb : Below w.heap.size w W) => vcmp A C W (hA.keep hb) (hC.keep hb)
  have kn := fun W (hb : Below w.heap.size w W) => vcmp B A W (hB.keep hb) (hA.keep hb)
  have k0 := fun W (hb : Below w.heap.size w W) => vcmp A A W (hA.keep hb) (hA.keep hb)
  have ks := fun W (hb : Below w.heap.size w W) => vsame A B W (hA.keep hb) (hB.keep hb)
  rw [same_zero A B gA gB] at ks
  rw [cmp_is gA gA, lexc_self] at k0
  rw [cmp_is gB gA, lexc_anti] at kn
  rw [cmp_is gA gB] at kx ks
  rw [cmp_is gB gC] at ky
  rw [cmp_is gA gC] at kz
  have h1 : lexc (code A) (code B) = 0 → lexc (code A) (code C) = lexc (code B) (code C) := fun h => by rw [lexc_zero _ _ h]
  have h2 : lexc (code B) (code C) = 0 → lexc (code A) (code C) = lexc (code A) (code B) := fun h => by rw [lexc_zero _ _ h]
  have h3 : lexc (code A) (code B) = lexc (code B) (code C) → lexc (code A) (code C) = lexc (code A) (code B) := fun h => by
    rcases lexc_three (code A) (code B) with e | e | e
    · rw [e, lexc_less _ _ _ e (h ▸ e)]
    · exact h2 (h ▸ e)
    · have e1 : lexc (code B) (code A) = -1 := by rw [lexc_anti, e]
      have e2 : lexc (code C) (code B) = -1 := by rw [lexc_anti, ← h, e]
      have e3 := lexc_less _ _ _ e2 e1
      rw [lexc_anti] at e3
      omega
  have t1 := lexc_three (code A) (code B)
  have t2 := lexc_three (code B) (code C)
  have t3 := lexc_three (code A) (code C)
  generalize lexc (code A) (code B) = x at *
  generalize lexc (code B) (code C) = y at *
  generalize lexc (code A) (code C) = z at *
  rw [v, v, v] at *
  exact less_core _ _ _ _ _ _ _ _ _ _ _ _ _ _ _ _ _ _ _ _ _ _ _ _ _ _ _ _ _ _ _ _ _ _ _ _ _ _ _ _ _ _ w hT x y z t1 t2 t3 h1 h2 h3 k1 k2 k3 k4 k5 k6 kx ky kz kn ks k0
end Go.Proofs.YtgklokjilfeklaaDoor
