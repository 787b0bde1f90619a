/-
  whole.ExactDown, RoughDown, Print, Parse: the contracts, said of integers below 2^256 in size. The tables math/bits.deBruijn64tab, internal/strconv.uint64pow10 read as their initialisers lay them.
-/
import Derived.Test.YtngmdncidieclaaDoorWholeH
import Derived.Test.YtngmdncidieclaaDoorNatPrint
import Derived.Test.YtngmdncidieclaaDoorNatParse
namespace Go.Proofs.YtngmdncidieclaaDoor
open Go.RowKit Go.Shelf
attribute [local go_sem ↓] eql_nat neq_nat eql_int5 neq_int5

theorem edown_z (z : Int) (hz : z.natAbs < 2 ^ 256) (w : World) (hT : Tb w) :
    Calls Tryd.prog 50 #[Iz z] w fun e w' => e = .returned (Znum (-(eup (-z)))) ∧ Below w.heap.size w w' := by
  by_cases h : (eup (-z)).natAbs < 2 ^ 256
  · refine (edown_of w z (eup (-z)) true hz h (fun W hW => ?_)).mono ?_
    · have := exup_z (-z) (by omega) W (tb_on hT hW)
      rw [Znum_of h] at this
      exact this
    rintro e w' ⟨rfl, hb⟩
    exact ⟨by rw [Znum_of (by omega)], hb⟩
  · refine (edown_of w z 0 false hz (by decide) (fun W hW => ?_)).mono ?_
    · have := exup_z (-z) (by omega) W (tb_on hT hW)
      rw [Znum_Z5 h, ← Iz_zero] at this
      exact this
    rintro e w' ⟨rfl, hb⟩
    refine ⟨?_, hb⟩
    rw [Znum_Z5 (by omega), ← Iz_zero]
    rfl
theorem rdown_z (z : Int) (hz : z.natAbs < 2 ^ 256) (w : World) (hT : Tb w) :
    Calls Tryd.prog 52 #[Iz z] w fun e w' => e = .returned (Znum (-(rup (-z)))) ∧ Below w.heap.size w w' := by
  by_cases h : (rup (-z)).natAbs < 2 ^ 256
  · refine (rdown_of w z (rup (-z)) true hz h (fun W hW => ?_)).mono ?_
    · have := roup_z (-z) (by omega) W (tb_on hT hW)
      rw [Znum_of h] at this
      exact this
    rintro e w' ⟨rfl, hb⟩
    exact ⟨by rw [Znum_of (by omega)], hb⟩
  · refine (rdown_of w z 0 false hz (by decide) (fun W hW => ?_)).mono ?_
    · have := roup_z (-z) (by omega) W (tb_on hT hW)
      rw [Znum_Z5 h, ← Iz_zero] at this
      exact this
    rintro e w' ⟨rfl, hb⟩
    refine ⟨?_, hb⟩
    rw [Znum_Z5 (by omega), ← Iz_zero]
    rfl
set_option maxRecDepth 100000 in
theorem wprint_no (g : Bool) (x0 x1 x2 x3 : Int)
    (m1 : ∀ W, Calls Tryd.prog 28 #[.agg #[.bool g, .int .u64 x0, .int .u64 x1, .int .u64 x2, .int .u64 x3]] W fun e w' => e = .returned (.bool false) ∧ Below W.heap.size W w') (w : World) :
    Calls Tryd.prog 46 #[.agg #[.bool g, .int .u64 x0, .int .u64 x1, .int .u64 x2, .int .u64 x3]] w fun e w' => e = .returned (.string ⟨#[]⟩) ∧ Below w.heap.size w w' := by
  have M1 := Lib.hid m1; clear m1
  go_enter Tryd.func46, Tryd.ntmps46
  go_wp2_with fail
  (with_reducible refine (M1.out _).mono ?_)
  rintro e w1 ⟨rfl, hb⟩
  have BW1 : Below w.heap.size w w1 := btr (by repeat (first | (with_reducible exact Below.refl _ _) | (with_reducible refine bal ?_ _) | (with_reducible refine Below.drew ?_) | (with_reducible refine bdn ?_ _))) hb
  have X1 : Row5 w1 w.heap.size (.bool g) (.int .u64 x0) (.int .u64 x1) (.int .u64 x2) (.int .u64 x3) := Row5.keep hb (by repeat (first | (with_reducible exact Row5.new _ _ _ _ _ _) | ((with_reducible refine Row5.new' _ ?_ _ _ _ _ _); (simp; done)) | (with_reducible refine Row5.alloc ?_ _) | (with_reducible refine Row5.drew ?_)))
  clear hb
  go_wp2
  go_ret
  exact ⟨rfl, BW1⟩

set_option maxRecDepth 100000 in
theorem wprint_p (x0 x1 x2 x3 : Int) (p : ByteArray)
    (m1 : ∀ W, Calls Tryd.prog 28 #[.agg #[.bool false, .int .u64 x0, .int .u64 x1, .int .u64 x2, .int .u64 x3]] W fun e w' => e = .returned (.bool true) ∧ Below W.heap.size W w')
    (m2 : ∀ W, Tab W → Calls Tryd.prog 26 #[.agg #[.int .u64 x0, .int .u64 x1, .int .u64 x2, .int .u64 x3]] W fun e w' => e = .returned (.string p) ∧ Below W.heap.size W w') (w : World) (hT : Tab w) :
    Calls Tryd.prog 46 #[.agg #[.bool false, .int .u64 x0, .int .u64 x1, .int .u64 x2, .int .u64 x3]] w fun e w' => e = .returned (.string p) ∧ Below w.heap.size w w' := by
  have M1 := Lib.hid m1; clear m1
  have M2 := Lib.hid m2; clear m2
  have HT := Lib.hid hT; clear hT
  go_enter Tryd.func46, Tryd.ntmps46
  go_wp2_with fail
  (with_reducible refine (M1.out _).mono ?_)
  rintro e w1 ⟨rfl, hb⟩
  have BW1 : Below w.heap.size w w1 := btr (by repeat (first | (with_reducible exact Below.refl _ _) | (with_reducible refine bal ?_ _) | (with_reducible refine Below.drew ?_) | (with_reducible refine bdn ?_ _))) hb
  have X1 : Row5 w1 w.heap.size (.bool false) (.int .u64 x0) (.int .u64 x1) (.int .u64 x2) (.int .u64 x3) := Row5.keep hb (by repeat (first | (with_reducible exact Row5.new _ _ _ _ _ _) | ((with_reducible refine Row5.new' _ ?_ _ _ _ _ _); (simp; done)) | (with_reducible refine Row5.alloc ?_ _) | (with_reducible refine Row5.drew ?_)))
  clear hb
  obtain ⟨Xc0, Xc1, Xc2, Xc3, Xc4⟩ := X1.parts
  obtain ⟨Xf0, Xf1, Xf2, Xf3, Xf4⟩ := X1.free
  go_wp2_with fail
  refine (M2.out _ (tab_on HT.out (by repeat (first | (with_reducible exact BW1) | (with_reducible refine bal ?_ _) | (with_reducible refine Below.drew ?_) | (with_reducible refine bdn ?_ _))))).mono ?_
  rintro e w2 ⟨rfl, hb⟩
  have BW2 : Below w.heap.size w w2 := btr (by repeat (first | (with_reducible exact BW1) | (with_reducible refine bal ?_ _) | (with_reducible refine Below.drew ?_) | (with_reducible refine bdn ?_ _))) hb
  have X2 : Row5 w2 w.heap.size (.bool false) (.int .u64 x0) (.int .u64 x1) (.int .u64 x2) (.int .u64 x3) := Row5.keep hb (by repeat (first | (with_reducible exact X1) | (with_reducible refine Row5.alloc ?_ _) | (with_reducible refine Row5.drew ?_)))
  clear X1
  clear BW1
  clear hb
  go_wp2
  go_ret
  exact ⟨rfl, BW2⟩

set_option maxRecDepth 100000 in
theorem wprint_n (x0 x1 x2 x3 : Int) (p : ByteArray) (hp : p.size ≤ 100)
    (m1 : ∀ W, Calls Tryd.prog 28 #[.agg #[.bool true, .int .u64 x0, .int .u64 x1, .int .u64 x2, .int .u64 x3]] W fun e w' => e = .returned (.bool true) ∧ Below W.heap.size W w')
    (m2 : ∀ W, Tab W → Calls Tryd.prog 26 #[.agg #[.int .u64 x0, .int .u64 x1, .int .u64 x2, .int .u64 x3]] W fun e w' => e = .returned (.string p) ∧ Below W.heap.size W w') (w : World) (hT : Tab w) :
    Calls Tryd.prog 46 #[.agg #[.bool true, .int .u64 x0, .int .u64 x1, .int .u64 x2, .int .u64 x3]] w fun e w' => e = .returned (.string (⟨#[45]⟩ ++ p)) ∧ Below w.heap.size w w' := by
  have M1 := Lib.hid m1; clear m1
  have M2 := Lib.hid m2; clear m2
  have HT := Lib.hid hT; clear hT
  go_enter Tryd.func46, Tryd.ntmps46
  go_wp2_with fail
  (with_reducible refine (M1.out _).mono ?_)
  rintro e w1 ⟨rfl, hb⟩
  have BW1 : Below w.heap.size w w1 := btr (by repeat (first | (with_reducible exact Below.refl _ _) | (with_reducible refine bal ?_ _) | (with_reducible refine Below.drew ?_) | (with_reducible refine bdn ?_ _))) hb
  have X1 : Row5 w1 w.heap.size (.bool true) (.int .u64 x0) (.int .u64 x1) (.int .u64 x2) (.int .u64 x3) := Row5.keep hb (by repeat (first | (with_reducible exact Row5.new _ _ _ _ _ _) | ((with_reducible refine Row5.new' _ ?_ _ _ _ _ _); (simp; done)) | (with_reducible refine Row5.alloc ?_ _) | (with_reducible refine Row5.drew ?_)))
  clear hb
  obtain ⟨Xc0, Xc1, Xc2, Xc3, Xc4⟩ := X1.parts
  obtain ⟨Xf0, Xf1, Xf2, Xf3, Xf4⟩ := X1.free
  go_wp2_with fail
  refine (M2.out _ (tab_on HT.out (by repeat (first | (with_reducible exact BW1) | (with_reducible refine bal ?_ _) | (with_reducible refine Below.drew ?_) | (with_reducible refine bdn ?_ _))))).mono ?_
  rintro e w2 ⟨rfl, hb⟩
  have BW2 : Below w.heap.size w w2 := btr (by repeat (first | (with_reducible exact BW1) | (with_reducible refine bal ?_ _) | (with_reducible refine Below.drew ?_) | (with_reducible refine bdn ?_ _))) hb
  have X2 : Row5 w2 w.heap.size (.bool true) (.int .u64 x0) (.int .u64 x1) (.int .u64 x2) (.int .u64 x3) := Row5.keep hb (by repeat (first | (with_reducible exact X1) | (with_reducible refine Row5.alloc ?_ _) | (with_reducible refine Row5.drew ?_)))
  clear X1
  clear BW1
  clear hb
  go_wp2
  go_ret
  exact ⟨rfl, BW2⟩

set_option maxHeartbeats 1000000 in
set_option maxRecDepth 100000 in
theorem wparse_no (s d : ByteArray) (g : Bool) (x0 x1 x2 x3 : Int)
    (m1 : ∀ W, Calls Tryd.prog 91 #[.string s, .string ⟨#[45]⟩] W fun e w' => e = .returned (.tuple #[.string d, .bool g]) ∧ Below W.heap.size W w')
    (m2 : ∀ W, Calls Tryd.prog 24 #[.string d] W fun e w' => e = .returned (.tuple #[.agg #[.int .u64 x0, .int .u64 x1, .int .u64 x2, .int .u64 x3], .bool false]) ∧ Below W.heap.size W w') (w : World) :
    Calls Tryd.prog 44 #[.string s] w fun e w' => e = .returned (.tuple #[Z5, .bool false]) ∧ Below w.heap.size w w' := by
  have M1 := Lib.hid m1; clear m1
  have M2 := Lib.hid m2; clear m2
  go_enter Tryd.func44, Tryd.ntmps44
  go_wp2_with fail
  (with_reducible refine (M1.out _).mono ?_)
  rintro e w1 ⟨rfl, hb⟩
  have BW1 : Below w.heap.size w w1 := btr (by repeat (first | (with_reducible exact Below.refl _ _) | (with_reducible refine bal ?_ _) | (with_reducible refine Below.drew ?_) | (with_reducible refine bdn ?_ _))) hb
  have R1 : Row5 w1 w.heap.size (.bool false) (.int .u64 0) (.int .u64 0) (.int .u64 0) (.int .u64 0) := Row5.keep hb (by repeat (first | (with_reducible exact Row5.new _ _ _ _ _ _) | ((with_reducible refine Row5.new' _ ?_ _ _ _ _ _); (simp; done)) | (with_reducible refine Row5.alloc ?_ _) | (with_reducible refine Row5.drew ?_)))
  clear hb
  go_wp2_with fail
  (with_reducible refine (M2.out _).mono ?_)
  rintro e w2 ⟨rfl, hb⟩
  have BW2 : Below w.heap.size w w2 := btr (by repeat (first | (with_reducible exact BW1) | (with_reducible refine bal ?_ _) | (with_reducible refine Below.drew ?_) | (with_reducible refine bdn ?_ _))) hb
  have R2 : Row5 w2 w.heap.size (.bool false) (.int .u64 0) (.int .u64 0) (.int .u64 0) (.int .u64 0) := Row5.keep hb (by repeat (first | (with_reducible exact R1) | (with_reducible refine Row5.alloc ?_ _) | (with_reducible refine Row5.drew ?_)))
  clear R1
  clear BW1
  clear hb
  go_upto_region 3 with (fail)
  go_name_world w3 hw3
  have BW3 : Below w.heap.size w w3 := by rw [← hw3]; repeat (first | (with_reducible exact BW2) | (with_reducible refine bal ?_ _) | (with_reducible refine Below.drew ?_) | (with_reducible refine bdn ?_ _))
  have R3 : Row5 w3 w.heap.size (.bool false) (.int .u64 0) (.int .u64 0) (.int .u64 0) (.int .u64 0) := by rw [← hw3]; exact (by repeat (first | (with_reducible exact R2) | (with_reducible refine Row5.alloc ?_ _) | (with_reducible refine Row5.drew ?_)))
  have apN_R := R2.lt
  have apN_0 := (BW2).size
  have N3 : Row4 w3 w2.heap.size (.int .u64 x0) (.int .u64 x1) (.int .u64 x2) (.int .u64 x3) := by rw [← hw3]; exact (by repeat (first | (with_reducible exact Row4.new _ _ _ _ _) | ((with_reducible refine Row4.new' _ ?_ _ _ _ _); (simp; done)) | (with_reducible refine Row4.alloc ?_ _) | (with_reducible refine Row4.drew ?_)))
  clear R2
  clear BW2
  clear hw3
  obtain ⟨Nc0, Nc1, Nc2, Nc3⟩ := N3.four
  obtain ⟨Nf0, Nf1, Nf2, Nf3⟩ := N3.free4
  go_upto_region 4 with (fail)
  go_name_world w4 hw4
  have BW4 : Below w.heap.size w w4 := by rw [← hw4]; repeat (first | (with_reducible exact BW3) | (with_reducible refine bal ?_ _) | (with_reducible refine Below.drew ?_) | (with_reducible refine bdn ?_ _))
  have R4 : Row5 w4 w.heap.size (.bool false) (.int .u64 0) (.int .u64 0) (.int .u64 0) (.int .u64 0) := by rw [← hw4]; exact (by repeat (first | (with_reducible exact R3) | (with_reducible refine Row5.alloc ?_ _) | (with_reducible refine Row5.drew ?_)))
  have N4 : Row4 w4 w2.heap.size (.int .u64 x0) (.int .u64 x1) (.int .u64 x2) (.int .u64 x3) := by rw [← hw4]; exact (by repeat (first | (with_reducible exact N3) | (with_reducible refine Row4.alloc ?_ _) | (with_reducible refine Row4.drew ?_)))
  have apA_R := R3.lt
  have apA_N := N3.lt
  have apA_0 := (BW3).size
  have A4 : Row5 w4 w3.heap.size (.bool g) (.int .u64 x0) (.int .u64 x1) (.int .u64 x2) (.int .u64 x3) := by rw [← hw4]; exact (by repeat (first | (with_reducible exact Row5.new _ _ _ _ _ _) | ((with_reducible refine Row5.new' _ ?_ _ _ _ _ _); (simp; done)) | (with_reducible refine Row5.alloc ?_ _) | (with_reducible refine Row5.drew ?_)))
  clear R3 N3
  clear BW3
  clear hw4
  obtain ⟨Rc0, Rc1, Rc2, Rc3, Rc4⟩ := R4.parts
  obtain ⟨Rf0, Rf1, Rf2, Rf3, Rf4⟩ := R4.free
  obtain ⟨Ac0, Ac1, Ac2, Ac3, Ac4⟩ := A4.parts
  obtain ⟨Af0, Af1, Af2, Af3, Af4⟩ := A4.free
  have lt_R := R4.lt
  have lt_A := A4.lt
  have neAR : ¬ w3.heap.size = w.heap.size := by omega
  go_wp2
  exact bodyPost_ret (v := .tuple #[Z5, .bool false]) (by simp [results, Tryd.results44, go_sem, Rc0, Rc1, Rc2, Rc3, Rc4]) rfl ⟨rfl, bsc5 BW4 (by omega) _ _ _ _ _⟩

set_option maxHeartbeats 1000000 in
set_option maxRecDepth 100000 in
theorem wparse_bad (s d : ByteArray) (g : Bool) (x0 x1 x2 x3 : Int)
    (m1 : ∀ W, Calls Tryd.prog 91 #[.string s, .string ⟨#[45]⟩] W fun e w' => e = .returned (.tuple #[.string d, .bool g]) ∧ Below W.heap.size W w')
    (m2 : ∀ W, Calls Tryd.prog 24 #[.string d] W fun e w' => e = .returned (.tuple #[.agg #[.int .u64 x0, .int .u64 x1, .int .u64 x2, .int .u64 x3], .bool true]) ∧ Below W.heap.size W w')
    (m3 : ∀ W, Calls Tryd.prog 28 #[.agg #[.bool g, .int .u64 x0, .int .u64 x1, .int .u64 x2, .int .u64 x3]] W fun e w' => e = .returned (.bool false) ∧ Below W.heap.size W w') (w : World) :
    Calls Tryd.prog 44 #[.string s] w fun e w' => e = .returned (.tuple #[Z5, .bool false]) ∧ Below w.heap.size w w' := by
  have M1 := Lib.hid m1; clear m1
  have M2 := Lib.hid m2; clear m2
  have M3 := Lib.hid m3; clear m3
  go_enter Tryd.func44, Tryd.ntmps44
  go_wp2_with fail
  (with_reducible refine (M1.out _).mono ?_)
  rintro e w1 ⟨rfl, hb⟩
  have BW1 : Below w.heap.size w w1 := btr (by repeat (first | (with_reducible exact Below.refl _ _) | (with_reducible refine bal ?_ _) | (with_reducible refine Below.drew ?_) | (with_reducible refine bdn ?_ _))) hb
  have R1 : Row5 w1 w.heap.size (.bool false) (.int .u64 0) (.int .u64 0) (.int .u64 0) (.int .u64 0) := Row5.keep hb (by repeat (first | (with_reducible exact Row5.new _ _ _ _ _ _) | ((with_reducible refine Row5.new' _ ?_ _ _ _ _ _); (simp; done)) | (with_reducible refine Row5.alloc ?_ _) | (with_reducible refine Row5.drew ?_)))
  clear hb
  go_wp2_with fail
  (with_reducible refine (M2.out _).mono ?_)
  rintro e w2 ⟨rfl, hb⟩
  have BW2 : Below w.heap.size w w2 := btr (by repeat (first | (with_reducible exact BW1) | (with_reducible refine bal ?_ _) | (with_reducible refine Below.drew ?_) | (with_reducible refine bdn ?_ _))) hb
  have R2 : Row5 w2 w.heap.size (.bool false) (.int .u64 0) (.int .u64 0) (.int .u64 0) (.int .u64 0) := Row5.keep hb (by repeat (first | (with_reducible exact R1) | (with_reducible refine Row5.alloc ?_ _) | (with_reducible refine Row5.drew ?_)))
  clear R1
  clear BW1
  clear hb
  go_upto_region 3 with (fail)
  go_name_world w3 hw3
  have BW3 : Below w.heap.size w w3 := by rw [← hw3]; repeat (first | (with_reducible exact BW2) | (with_reducible refine bal ?_ _) | (with_reducible refine Below.drew ?_) | (with_reducible refine bdn ?_ _))
  have R3 : Row5 w3 w.heap.size (.bool false) (.int .u64 0) (.int .u64 0) (.int .u64 0) (.int .u64 0) := by rw [← hw3]; exact (by repeat (first | (with_reducible exact R2) | (with_reducible refine Row5.alloc ?_ _) | (with_reducible refine Row5.drew ?_)))
  have apN_R := R2.lt
  have apN_0 := (BW2).size
  have N3 : Row4 w3 w2.heap.size (.int .u64 x0) (.int .u64 x1) (.int .u64 x2) (.int .u64 x3) := by rw [← hw3]; exact (by repeat (first | (with_reducible exact Row4.new _ _ _ _ _) | ((with_reducible refine Row4.new' _ ?_ _ _ _ _); (simp; done)) | (with_reducible refine Row4.alloc ?_ _) | (with_reducible refine Row4.drew ?_)))
  clear R2
  clear BW2
  clear hw3
  obtain ⟨Nc0, Nc1, Nc2, Nc3⟩ := N3.four
  obtain ⟨Nf0, Nf1, Nf2, Nf3⟩ := N3.free4
  go_upto_region 4 with (fail)
  go_name_world w4 hw4
  have BW4 : Below w.heap.size w w4 := by rw [← hw4]; repeat (first | (with_reducible exact BW3) | (with_reducible refine bal ?_ _) | (with_reducible refine Below.drew ?_) | (with_reducible refine bdn ?_ _))
  have R4 : Row5 w4 w.heap.size (.bool false) (.int .u64 0) (.int .u64 0) (.int .u64 0) (.int .u64 0) := by rw [← hw4]; exact (by repeat (first | (with_reducible exact R3) | (with_reducible refine Row5.alloc ?_ _) | (with_reducible refine Row5.drew ?_)))
  have N4 : Row4 w4 w2.heap.size (.int .u64 x0) (.int .u64 x1) (.int .u64 x2) (.int .u64 x3) := by rw [← hw4]; exact (by repeat (first | (with_reducible exact N3) | (with_reducible refine Row4.alloc ?_ _) | (with_reducible refine Row4.drew ?_)))
  have apA_R := R3.lt
  have apA_N := N3.lt
  have apA_0 := (BW3).size
  have A4 : Row5 w4 w3.heap.size (.bool g) (.int .u64 x0) (.int .u64 x1) (.int .u64 x2) (.int .u64 x3) := by rw [← hw4]; exact (by repeat (first | (with_reducible exact Row5.new _ _ _ _ _ _) | ((with_reducible refine Row5.new' _ ?_ _ _ _ _ _); (simp; done)) | (with_reducible refine Row5.alloc ?_ _) | (with_reducible refine Row5.drew ?_)))
  clear R3 N3
  clear BW3
  clear hw4
  obtain ⟨Ac0, Ac1, Ac2, Ac3, Ac4⟩ := A4.parts
  obtain ⟨Af0, Af1, Af2, Af3, Af4⟩ := A4.free
  go_wp2_with fail
  (with_reducible refine (M3.out _).mono ?_)
  rintro e w5 ⟨rfl, hb⟩
  have BW5 : Below w.heap.size w w5 := btr (by repeat (first | (with_reducible exact BW4) | (with_reducible refine bal ?_ _) | (with_reducible refine Below.drew ?_) | (with_reducible refine bdn ?_ _))) hb
  have R5 : Row5 w5 w.heap.size (.bool false) (.int .u64 0) (.int .u64 0) (.int .u64 0) (.int .u64 0) := Row5.keep hb (by repeat (first | (with_reducible exact R4) | (with_reducible refine Row5.alloc ?_ _) | (with_reducible refine Row5.drew ?_)))
  have N5 : Row4 w5 w2.heap.size (.int .u64 x0) (.int .u64 x1) (.int .u64 x2) (.int .u64 x3) := Row4.keep hb (by repeat (first | (with_reducible exact N4) | (with_reducible refine Row4.alloc ?_ _) | (with_reducible refine Row4.drew ?_)))
  have A5 : Row5 w5 w3.heap.size (.bool g) (.int .u64 x0) (.int .u64 x1) (.int .u64 x2) (.int .u64 x3) := Row5.keep hb (by repeat (first | (with_reducible exact A4) | (with_reducible refine Row5.alloc ?_ _) | (with_reducible refine Row5.drew ?_)))
  clear R4 N4 A4
  clear BW4
  clear hb
  obtain ⟨Rc0, Rc1, Rc2, Rc3, Rc4⟩ := R5.parts
  obtain ⟨Rf0, Rf1, Rf2, Rf3, Rf4⟩ := R5.free
  obtain ⟨Ac0, Ac1, Ac2, Ac3, Ac4⟩ := A5.parts
  obtain ⟨Af0, Af1, Af2, Af3, Af4⟩ := A5.free
  have lt_R := R5.lt
  have lt_A := A5.lt
  have neAR : ¬ w3.heap.size = w.heap.size := by omega
  go_wp2
  exact bodyPost_ret (v := .tuple #[Z5, .bool false]) (by simp [results, Tryd.results44, go_sem, Rc0, Rc1, Rc2, Rc3, Rc4]) rfl ⟨rfl, bsc5 BW5 (by omega) _ _ _ _ _⟩

set_option maxHeartbeats 1000000 in
set_option maxRecDepth 100000 in
theorem wparse_yes (s d : ByteArray) (g : Bool) (x0 x1 x2 x3 : Int)
    (m1 : ∀ W, Calls Tryd.prog 91 #[.string s, .string ⟨#[45]⟩] W fun e w' => e = .returned (.tuple #[.string d, .bool g]) ∧ Below W.heap.size W w')
    (m2 : ∀ W, Calls Tryd.prog 24 #[.string d] W fun e w' => e = .returned (.tuple #[.agg #[.int .u64 x0, .int .u64 x1, .int .u64 x2, .int .u64 x3], .bool true]) ∧ Below W.heap.size W w')
    (m3 : ∀ W, Calls Tryd.prog 28 #[.agg #[.bool g, .int .u64 x0, .int .u64 x1, .int .u64 x2, .int .u64 x3]] W fun e w' => e = .returned (.bool true) ∧ Below W.heap.size W w') (w : World) :
    Calls Tryd.prog 44 #[.string s] w fun e w' => e = .returned (.tuple #[.agg #[.bool g, .int .u64 x0, .int .u64 x1, .int .u64 x2, .int .u64 x3], .bool true]) ∧ Below w.heap.size w w' := by
  have M1 := Lib.hid m1; clear m1
  have M2 := Lib.hid m2; clear m2
  have M3 := Lib.hid m3; clear m3
  go_enter Tryd.func44, Tryd.ntmps44
  go_wp2_with fail
  (with_reducible refine (M1.out _).mono ?_)
  rintro e w1 ⟨rfl, hb⟩
  have BW1 : Below w.heap.size w w1 := btr (by repeat (first | (with_reducible exact Below.refl _ _) | (with_reducible refine bal ?_ _) | (with_reducible refine Below.drew ?_) | (with_reducible refine bdn ?_ _))) hb
  have R1 : Row5 w1 w.heap.size (.bool false) (.int .u64 0) (.int .u64 0) (.int .u64 0) (.int .u64 0) := Row5.keep hb (by repeat (first | (with_reducible exact Row5.new _ _ _ _ _ _) | ((with_reducible refine Row5.new' _ ?_ _ _ _ _ _); (simp; done)) | (with_reducible refine Row5.alloc ?_ _) | (with_reducible refine Row5.drew ?_)))
  clear hb
  go_wp2_with fail
  (with_reducible refine (M2.out _).mono ?_)
  rintro e w2 ⟨rfl, hb⟩
  have BW2 : Below w.heap.size w w2 := btr (by repeat (first | (with_reducible exact BW1) | (with_reducible refine bal ?_ _) | (with_reducible refine Below.drew ?_) | (with_reducible refine bdn ?_ _))) hb
  have R2 : Row5 w2 w.heap.size (.bool false) (.int .u64 0) (.int .u64 0) (.int .u64 0) (.int .u64 0) := Row5.keep hb (by repeat (first | (with_reducible exact R1) | (with_reducible refine Row5.alloc ?_ _) | (with_reducible refine Row5.drew ?_)))
  clear R1
  clear BW1
  clear hb
  go_upto_region 3 with (fail)
  go_name_world w3 hw3
  have BW3 : Below w.heap.size w w3 := by rw [← hw3]; repeat (first | (with_reducible exact BW2) | (with_reducible refine bal ?_ _) | (with_reducible refine Below.drew ?_) | (with_reducible refine bdn ?_ _))
  have R3 : Row5 w3 w.heap.size (.bool false) (.int .u64 0) (.int .u64 0) (.int .u64 0) (.int .u64 0) := by rw [← hw3]; exact (by repeat (first | (with_reducible exact R2) | (with_reducible refine Row5.alloc ?_ _) | (with_reducible refine Row5.drew ?_)))
  have apN_R := R2.lt
  have apN_0 := (BW2).size
  have N3 : Row4 w3 w2.heap.size (.int .u64 x0) (.int .u64 x1) (.int .u64 x2) (.int .u64 x3) := by rw [← hw3]; exact (by repeat (first | (with_reducible exact Row4.new _ _ _ _ _) | ((with_reducible refine Row4.new' _ ?_ _ _ _ _); (simp; done)) | (with_reducible refine Row4.alloc ?_ _) | (with_reducible refine Row4.drew ?_)))
  clear R2
  clear BW2
  clear hw3
  obtain ⟨Nc0, Nc1, Nc2, Nc3⟩ := N3.four
  obtain ⟨Nf0, Nf1, Nf2, Nf3⟩ := N3.free4
  go_upto_region 4 with (fail)
  go_name_world w4 hw4
  have BW4 : Below w.heap.size w w4 := by rw [← hw4]; repeat (first | (with_reducible exact BW3) | (with_reducible refine bal ?_ _) | (with_reducible refine Below.drew ?_) | (with_reducible refine bdn ?_ _))
  have R4 : Row5 w4 w.heap.size (.bool false) (.int .u64 0) (.int .u64 0) (.int .u64 0) (.int .u64 0) := by rw [← hw4]; exact (by repeat (first | (with_reducible exact R3) | (with_reducible refine Row5.alloc ?_ _) | (with_reducible refine Row5.drew ?_)))
  have N4 : Row4 w4 w2.heap.size (.int .u64 x0) (.int .u64 x1) (.int .u64 x2) (.int .u64 x3) := by rw [← hw4]; exact (by repeat (first | (with_reducible exact N3) | (with_reducible refine Row4.alloc ?_ _) | (with_reducible refine Row4.drew ?_)))
  have apA_R := R3.lt
  have apA_N := N3.lt
  have apA_0 := (BW3).size
  have A4 : Row5 w4 w3.heap.size (.bool g) (.int .u64 x0) (.int .u64 x1) (.int .u64 x2) (.int .u64 x3) := by rw [← hw4]; exact (by repeat (first | (with_reducible exact Row5.new _ _ _ _ _ _) | ((with_reducible refine Row5.new' _ ?_ _ _ _ _ _); (simp; done)) | (with_reducible refine Row5.alloc ?_ _) | (with_reducible refine Row5.drew ?_)))
  clear R3 N3
  clear BW3
  clear hw4
  obtain ⟨Ac0, Ac1, Ac2, Ac3, Ac4⟩ := A4.parts
  obtain ⟨Af0, Af1, Af2, Af3, Af4⟩ := A4.free
  go_wp2_with fail
  (with_reducible refine (M3.out _).mono ?_)
  rintro e w5 ⟨rfl, hb⟩
  have BW5 : Below w.heap.size w w5 := btr (by repeat (first | (with_reducible exact BW4) | (with_reducible refine bal ?_ _) | (with_reducible refine Below.drew ?_) | (with_reducible refine bdn ?_ _))) hb
  have R5 : Row5 w5 w.heap.size (.bool false) (.int .u64 0) (.int .u64 0) (.int .u64 0) (.int .u64 0) := Row5.keep hb (by repeat (first | (with_reducible exact R4) | (with_reducible refine Row5.alloc ?_ _) | (with_reducible refine Row5.drew ?_)))
  have N5 : Row4 w5 w2.heap.size (.int .u64 x0) (.int .u64 x1) (.int .u64 x2) (.int .u64 x3) := Row4.keep hb (by repeat (first | (with_reducible exact N4) | (with_reducible refine Row4.alloc ?_ _) | (with_reducible refine Row4.drew ?_)))
  have A5 : Row5 w5 w3.heap.size (.bool g) (.int .u64 x0) (.int .u64 x1) (.int .u64 x2) (.int .u64 x3) := Row5.keep hb (by repeat (first | (with_reducible exact A4) | (with_reducible refine Row5.alloc ?_ _) | (with_reducible refine Row5.drew ?_)))
  clear R4 N4 A4
  clear BW4
  clear hb
  obtain ⟨Rc0, Rc1, Rc2, Rc3, Rc4⟩ := R5.parts
  obtain ⟨Rf0, Rf1, Rf2, Rf3, Rf4⟩ := R5.free
  obtain ⟨Ac0, Ac1, Ac2, Ac3, Ac4⟩ := A5.parts
  obtain ⟨Af0, Af1, Af2, Af3, Af4⟩ := A5.free
  have lt_R := R5.lt
  have lt_A := A5.lt
  have neAR : ¬ w3.heap.size = w.heap.size := by omega
  go_wp2
  exact bodyPost_ret (v := .tuple #[.agg #[.bool g, .int .u64 x0, .int .u64 x1, .int .u64 x2, .int .u64 x3], .bool true]) (by simp [results, Tryd.results44, go_sem, Rc0, Rc1, Rc2, Rc3, Rc4]) rfl ⟨rfl, bsc5 BW5 (by omega) _ _ _ _ _⟩

end Go.Proofs.YtngmdncidieclaaDoor
