/-
  entrepotlaw1.NatTimes: the walk: it answers true for all numbers and factors. The table internal/strconv.uint64pow10 reads as its initialiser lays it.
-/
import Derived.Test.YtbegblkfdnaloaaDoorNatTold
import Derived.Test.YtbegblkfdnaloaaDoorIntBase
import Derived.Lib.ItoaWalk
namespace Go.Proofs.YtbegblkfdnaloaaDoor
open Go.RowKit Go.Shelf
attribute [local go_sem ↓] eql_nat neq_nat

set_option maxHeartbeats 4000000 in
set_option maxRecDepth 100000 in
theorem times_core (a0 a1 a2 a3 b0 b1 b2 b3 p0 p1 p2 p3 s0 s1 s2 s3 x0 x1 x2 x3 z0 z1 z2 z3 m0 m : Int) (hmax : max m0 1 = m) (hw : IntKind.u64.wrap (m - 1) = m - 1)
    (c1 : ∀ W, Calls Tryd.prog 20 #[.agg #[.int .u64 a0, .int .u64 a1, .int .u64 a2, .int .u64 0], .int .u64 m] W fun e w' => e = .returned (.tuple #[.agg #[.int .u64 p0, .int .u64 p1, .int .u64 p2, .int .u64 p3], .bool true]) ∧ Below W.heap.size W w')
    (c2 : ∀ W, Calls Tryd.prog 29 #[.agg #[.int .u64 p0, .int .u64 p1, .int .u64 p2, .int .u64 p3], .int .u64 m] W fun e w' => e = .returned (.tuple #[.agg #[.int .u64 a0, .int .u64 a1, .int .u64 a2, .int .u64 0], .int .u64 0, .bool true]) ∧ Below W.heap.size W w')
    (c3 : ∀ W, Calls Tryd.prog 18 #[.agg #[.int .u64 p0, .int .u64 p1, .int .u64 p2, .int .u64 p3], .agg #[.int .u64 (m - 1), .int .u64 0, .int .u64 0, .int .u64 0]] W fun e w' => e = .returned (.tuple #[.agg #[.int .u64 s0, .int .u64 s1, .int .u64 s2, .int .u64 s3], .bool true]) ∧ Below W.heap.size W w')
    (c4 : ∀ W, Calls Tryd.prog 29 #[.agg #[.int .u64 s0, .int .u64 s1, .int .u64 s2, .int .u64 s3], .int .u64 m] W fun e w' => e = .returned (.tuple #[.agg #[.int .u64 a0, .int .u64 a1, .int .u64 a2, .int .u64 0], .int .u64 (m - 1), .bool true]) ∧ Below W.heap.size W w')
    (c5 : ∀ W, Calls Tryd.prog 18 #[.agg #[.int .u64 a0, .int .u64 a1, .int .u64 a2, .int .u64 0], .agg #[.int .u64 b0, .int .u64 b1, .int .u64 b2, .int .u64 0]] W fun e w' => e = .returned (.tuple #[.agg #[.int .u64 x0, .int .u64 x1, .int .u64 x2, .int .u64 x3], .bool true]) ∧ Below W.heap.size W w')
    (c6 : ∀ W, Calls Tryd.prog 19 #[.agg #[.int .u64 x0, .int .u64 x1, .int .u64 x2, .int .u64 x3], .agg #[.int .u64 a0, .int .u64 a1, .int .u64 a2, .int .u64 0]] W fun e w' => e = .returned (.tuple #[.agg #[.int .u64 b0, .int .u64 b1, .int .u64 b2, .int .u64 0], .bool true]) ∧ Below W.heap.size W w')
    (c7 : ∀ W, Calls Tryd.prog 19 #[.agg #[.int .u64 a0, .int .u64 a1, .int .u64 a2, .int .u64 0], .agg #[.int .u64 x0, .int .u64 x1, .int .u64 x2, .int .u64 x3]] W fun e w' => e = .returned (.tuple #[.agg #[.int .u64 z0, .int .u64 z1, .int .u64 z2, .int .u64 z3], .bool (eq4 b0 b1 b2 0 0 0 0 0)]) ∧ Below W.heap.size W w')
    (hqa : eq4 a0 a1 a2 0 a0 a1 a2 0 = true) (hqb : eq4 b0 b1 b2 0 b0 b1 b2 0 = true) (w : World) (htab : Tab w) :
    Calls Tryd.prog 8 #[.agg #[.int .u64 a0, .int .u64 a1, .int .u64 a2, .int .u64 a3], .agg #[.int .u64 b0, .int .u64 b1, .int .u64 b2, .int .u64 b3], .int .u64 m0] w fun e w' => e = .returned (.bool true) ∧ Below w.heap.size w w' := by
  have HT := Lib.hid htab; clear htab
  have C1 := Lib.hid c1; clear c1
  have C2 := Lib.hid c2; clear c2
  have C3 := Lib.hid c3; clear c3
  have C4 := Lib.hid c4; clear c4
  have C5 := Lib.hid c5; clear c5
  have C6 := Lib.hid c6; clear c6
  have C7 := Lib.hid c7; clear c7
  go_enter Tryd.func8, Tryd.ntmps8
  go_wp2_with fail
  (with_reducible refine (C1.out _).mono ?_)
  rintro e w1 ⟨rfl, hb⟩
  have BW1 : Below w.heap.size w w1 := btr (by repeat (first | (with_reducible exact Below.refl _ _) | (with_reducible refine bal ?_ _) | (with_reducible refine Below.drew ?_) | (with_reducible refine bdn ?_ _))) hb
  have A1 : Row4 w1 w.heap.size (.int .u64 a0) (.int .u64 a1) (.int .u64 a2) (.int .u64 0) := Row4.keep hb (by repeat (first | (with_reducible exact Row4.new _ _ _ _ _) | ((with_reducible refine Row4.new' _ ?_ _ _ _ _); (simp; done)) | (with_reducible refine Row4.alloc ?_ _) | (with_reducible refine Row4.drew ?_)))
  have B1 : Row4 w1 (w.heap.size + 1) (.int .u64 b0) (.int .u64 b1) (.int .u64 b2) (.int .u64 0) := Row4.keep hb (by repeat (first | (with_reducible exact Row4.new _ _ _ _ _) | ((with_reducible refine Row4.new' _ ?_ _ _ _ _); (simp; done)) | (with_reducible refine Row4.alloc ?_ _) | (with_reducible refine Row4.drew ?_)))
  clear hb
  go_upto_region 4 with (fail)
  go_name_world w2 hw2
  have BW2 : Below w.heap.size w w2 := by rw [← hw2]; repeat (first | (with_reducible exact BW1) | (with_reducible refine bal ?_ _) | (with_reducible refine Below.drew ?_) | (with_reducible refine bdn ?_ _))
  have A2 : Row4 w2 w.heap.size (.int .u64 a0) (.int .u64 a1) (.int .u64 a2) (.int .u64 0) := by rw [← hw2]; exact (by repeat (first | (with_reducible exact A1) | (with_reducible refine Row4.alloc ?_ _) | (with_reducible refine Row4.drew ?_)))
  have B2 : Row4 w2 (w.heap.size + 1) (.int .u64 b0) (.int .u64 b1) (.int .u64 b2) (.int .u64 0) := by rw [← hw2]; exact (by repeat (first | (with_reducible exact B1) | (with_reducible refine Row4.alloc ?_ _) | (with_reducible refine Row4.drew ?_)))
  have apP_A := A1.lt
  have apP_B := B1.lt
  have apP_0 := (BW1).size
  have P2 : Row4 w2 w1.heap.size (.int .u64 p0) (.int .u64 p1) (.int .u64 p2) (.int .u64 p3) := by rw [← hw2]; exact (by repeat (first | (with_reducible exact Row4.new _ _ _ _ _) | ((with_reducible refine Row4.new' _ ?_ _ _ _ _); (simp; done)) | (with_reducible refine Row4.alloc ?_ _) | (with_reducible refine Row4.drew ?_)))
  clear A1 B1
  clear BW1
  clear hw2
  obtain ⟨Pc0, Pc1, Pc2, Pc3⟩ := P2.four
  obtain ⟨Pf0, Pf1, Pf2, Pf3⟩ := P2.free4
  go_wp2_with fail
  (with_reducible refine (C2.out _).mono ?_)
  rintro e w3 ⟨rfl, hb⟩
  have BW3 : Below w.heap.size w w3 := btr (by repeat (first | (with_reducible exact BW2) | (with_reducible refine bal ?_ _) | (with_reducible refine Below.drew ?_) | (with_reducible refine bdn ?_ _))) hb
  have A3 : Row4 w3 w.heap.size (.int .u64 a0) (.int .u64 a1) (.int .u64 a2) (.int .u64 0) := Row4.keep hb (by repeat (first | (with_reducible exact A2) | (with_reducible refine Row4.alloc ?_ _) | (with_reducible refine Row4.drew ?_)))
  have B3 : Row4 w3 (w.heap.size + 1) (.int .u64 b0) (.int .u64 b1) (.int .u64 b2) (.int .u64 0) := Row4.keep hb (by repeat (first | (with_reducible exact B2) | (with_reducible refine Row4.alloc ?_ _) | (with_reducible refine Row4.drew ?_)))
  have P3 : Row4 w3 w1.heap.size (.int .u64 p0) (.int .u64 p1) (.int .u64 p2) (.int .u64 p3) := Row4.keep hb (by repeat (first | (with_reducible exact P2) | (with_reducible refine Row4.alloc ?_ _) | (with_reducible refine Row4.drew ?_)))
  clear A2 B2 P2
  clear BW2
  clear hb
  go_upto_region 5 with (fail)
  go_name_world w4 hw4
  have BW4 : Below w.heap.size w w4 := by rw [← hw4]; repeat (first | (with_reducible exact BW3) | (with_reducible refine bal ?_ _) | (with_reducible refine Below.drew ?_) | (with_reducible refine bdn ?_ _))
  have A4 : Row4 w4 w.heap.size (.int .u64 a0) (.int .u64 a1) (.int .u64 a2) (.int .u64 0) := by rw [← hw4]; exact (by repeat (first | (with_reducible exact A3) | (with_reducible refine Row4.alloc ?_ _) | (with_reducible refine Row4.drew ?_)))
  have B4 : Row4 w4 (w.heap.size + 1) (.int .u64 b0) (.int .u64 b1) (.int .u64 b2) (.int .u64 0) := by rw [← hw4]; exact (by repeat (first | (with_reducible exact B3) | (with_reducible refine Row4.alloc ?_ _) | (with_reducible refine Row4.drew ?_)))
  have P4 : Row4 w4 w1.heap.size (.int .u64 p0) (.int .u64 p1) (.int .u64 p2) (.int .u64 p3) := by rw [← hw4]; exact (by repeat (first | (with_reducible exact P3) | (with_reducible refine Row4.alloc ?_ _) | (with_reducible refine Row4.drew ?_)))
  have apQ_A := A3.lt
  have apQ_B := B3.lt
  have apQ_P := P3.lt
  have apQ_0 := (BW3).size
  have Q4 : Row4 w4 w3.heap.size (.int .u64 a0) (.int .u64 a1) (.int .u64 a2) (.int .u64 0) := by rw [← hw4]; exact (by repeat (first | (with_reducible exact Row4.new _ _ _ _ _) | ((with_reducible refine Row4.new' _ ?_ _ _ _ _); (simp; done)) | (with_reducible refine Row4.alloc ?_ _) | (with_reducible refine Row4.drew ?_)))
  clear A3 B3 P3
  clear BW3
  clear hw4
  have lt_A := A4.lt
  have lt_B := B4.lt
  have lt_P := P4.lt
  have lt_Q := Q4.lt
  go_cut [12, 13] (fun s12 s13 wx => ∃ p : Nat, s12 = .pointer (some ⟨p, 0, none⟩) ∧ s13 = .bool true ∧ Row4 wx p (.int .u64 s0) (.int .u64 s1) (.int .u64 s2) (.int .u64 s3) ∧ w4.heap.size ≤ p ∧ Below w4.heap.size w4 wx)
  case first =>
    go_region_held3 (fun w' => w'.cell? ⟨w1.heap.size, 0, none⟩ = some (.int .u64 p0) ∧ w'.cell? ⟨w1.heap.size, 1, none⟩ = some (.int .u64 p1) ∧ w'.cell? ⟨w1.heap.size, 2, none⟩ = some (.int .u64 p2) ∧ w'.cell? ⟨w1.heap.size, 3, none⟩ = some (.int .u64 p3))
      ((refine Row4.four ?_; (repeat (first | (with_reducible assumption) | (with_reducible refine Row4.alloc ?_ _) | (with_reducible refine Row4.drew ?_) | ((with_reducible refine Row4.set ?_ ?_ _); rotate_left; (focus (omega))))); done))
      (first | (go_at_call 41; refine (of_one _ _).mono ?_; rintro e w9 ⟨rfl, o1, rfl⟩) | (go_at_call 18; (with_reducible refine (C3.out _).mono ?_); rintro e wf1 ⟨rfl, hb1⟩; have Pf1 : Row4 wf1 w1.heap.size (.int .u64 p0) (.int .u64 p1) (.int .u64 p2) (.int .u64 p3) := Row4.keep hb1 (by repeat (first | (with_reducible assumption) | (with_reducible refine Row4.alloc ?_ _) | (with_reducible refine Row4.drew ?_))); have ltPf1 := Pf1.lt; (first | (refine absorb (P := Row4 wf1 w4.heap.size (.int .u64 0) (.int .u64 0) (.int .u64 0) (.int .u64 0)) (Row4.keep hb1 ?_) (fun Z1 => ?_); (focus ((repeat (first | ((with_reducible refine Row4.new' _ ?_ _ _ _ _); (simp; done)) | (with_reducible refine Row4.alloc ?_ _) | (with_reducible refine Row4.drew ?_))); done))) | (refine absorb (P := Row4 wf1 (w4.heap.size + 1) (.int .u64 0) (.int .u64 0) (.int .u64 0) (.int .u64 0)) (Row4.keep hb1 ?_) (fun Z1 => ?_); (focus ((repeat (first | ((with_reducible refine Row4.new' _ ?_ _ _ _ _); (simp; done)) | (with_reducible refine Row4.alloc ?_ _) | (with_reducible refine Row4.drew ?_))); done))) | skip); (first | (obtain ⟨zc0, zc1, zc2, zc3⟩ := Z1.four; obtain ⟨zf0, zf1, zf2, zf3⟩ := Z1.free4) | skip)))
    all_goals
      have BB1 : Below w4.heap.size w4 wf1 := btr (by repeat (first | (with_reducible exact Below.refl _ _) | (with_reducible refine bal ?_ _) | (with_reducible refine Below.drew ?_) | (with_reducible refine bdn ?_ _))) hb1
      have hs := BB1.size
      go_wp2_with fail
      go_meet
      first
        | with_reducible exact ⟨_, rfl, rfl, Row4.new _ _ _ _ _, hs, bal BB1 _⟩
        | with_reducible exact ⟨_, rfl, rfl, Row4.set4 Z1 _ _ _ _, by omega, bsc4 BB1 (by omega) _ _ _ _⟩
  case rest =>
    obtain ⟨pS, rfl, rfl, Sq, hpS, hBS⟩ := hcut
    have hb := hBS
    generalize wc = w5 at *
    have BW5 : Below w.heap.size w w5 := btr BW4 hb
    have A5 : Row4 w5 w.heap.size (.int .u64 a0) (.int .u64 a1) (.int .u64 a2) (.int .u64 0) := Row4.keep hb A4
    have B5 : Row4 w5 (w.heap.size + 1) (.int .u64 b0) (.int .u64 b1) (.int .u64 b2) (.int .u64 0) := Row4.keep hb B4
    have P5 : Row4 w5 w1.heap.size (.int .u64 p0) (.int .u64 p1) (.int .u64 p2) (.int .u64 p3) := Row4.keep hb P4
    have Q5 : Row4 w5 w3.heap.size (.int .u64 a0) (.int .u64 a1) (.int .u64 a2) (.int .u64 0) := Row4.keep hb Q4
    have S5 : Row4 w5 pS (.int .u64 s0) (.int .u64 s1) (.int .u64 s2) (.int .u64 s3) := Sq
    clear A4 B4 P4 Q4 BW4 hb hBS Sq
    obtain ⟨Sc0, Sc1, Sc2, Sc3⟩ := S5.four
    obtain ⟨Sf0, Sf1, Sf2, Sf3⟩ := S5.free4
    go_wp2_with fail
    (with_reducible refine (C4.out _).mono ?_)
    rintro e w6 ⟨rfl, hb⟩
    have BW6 : Below w.heap.size w w6 := btr (by repeat (first | (with_reducible exact BW5) | (with_reducible refine bal ?_ _) | (with_reducible refine Below.drew ?_) | (with_reducible refine bdn ?_ _))) hb
    have A6 : Row4 w6 w.heap.size (.int .u64 a0) (.int .u64 a1) (.int .u64 a2) (.int .u64 0) := Row4.keep hb (by repeat (first | (with_reducible exact A5) | (with_reducible refine Row4.alloc ?_ _) | (with_reducible refine Row4.drew ?_)))
    have B6 : Row4 w6 (w.heap.size + 1) (.int .u64 b0) (.int .u64 b1) (.int .u64 b2) (.int .u64 0) := Row4.keep hb (by repeat (first | (with_reducible exact B5) | (with_reducible refine Row4.alloc ?_ _) | (with_reducible refine Row4.drew ?_)))
    have P6 : Row4 w6 w1.heap.size (.int .u64 p0) (.int .u64 p1) (.int .u64 p2) (.int .u64 p3) := Row4.keep hb (by repeat (first | (with_reducible exact P5) | (with_reducible refine Row4.alloc ?_ _) | (with_reducible refine Row4.drew ?_)))
    have Q6 : Row4 w6 w3.heap.size (.int .u64 a0) (.int .u64 a1) (.int .u64 a2) (.int .u64 0) := Row4.keep hb (by repeat (first | (with_reducible exact Q5) | (with_reducible refine Row4.alloc ?_ _) | (with_reducible refine Row4.drew ?_)))
    have S6 : Row4 w6 pS (.int .u64 s0) (.int .u64 s1) (.int .u64 s2) (.int .u64 s3) := Row4.keep hb (by repeat (first | (with_reducible exact S5) | (with_reducible refine Row4.alloc ?_ _) | (with_reducible refine Row4.drew ?_)))
    clear A5 B5 P5 Q5 S5
    clear BW5
    clear hb
    go_upto_region 7 with (fail)
    go_name_world w7 hw7
    have BW7 : Below w.heap.size w w7 := by rw [← hw7]; repeat (first | (with_reducible exact BW6) | (with_reducible refine bal ?_ _) | (with_reducible refine Below.drew ?_) | (with_reducible refine bdn ?_ _))
    have A7 : Row4 w7 w.heap.size (.int .u64 a0) (.int .u64 a1) (.int .u64 a2) (.int .u64 0) := by rw [← hw7]; exact (by repeat (first | (with_reducible exact A6) | (with_reducible refine Row4.alloc ?_ _) | (with_reducible refine Row4.drew ?_)))
    have B7 : Row4 w7 (w.heap.size + 1) (.int .u64 b0) (.int .u64 b1) (.int .u64 b2) (.int .u64 0) := by rw [← hw7]; exact (by repeat (first | (with_reducible exact B6) | (with_reducible refine Row4.alloc ?_ _) | (with_reducible refine Row4.drew ?_)))
    have P7 : Row4 w7 w1.heap.size (.int .u64 p0) (.int .u64 p1) (.int .u64 p2) (.int .u64 p3) := by rw [← hw7]; exact (by repeat (first | (with_reducible exact P6) | (with_reducible refine Row4.alloc ?_ _) | (with_reducible refine Row4.drew ?_)))
    have Q7 : Row4 w7 w3.heap.size (.int .u64 a0) (.int .u64 a1) (.int .u64 a2) (.int .u64 0) := by rw [← hw7]; exact (by repeat (first | (with_reducible exact Q6) | (with_reducible refine Row4.alloc ?_ _) | (with_reducible refine Row4.drew ?_)))
    have S7 : Row4 w7 pS (.int .u64 s0) (.int .u64 s1) (.int .u64 s2) (.int .u64 s3) := by rw [← hw7]; exact (by repeat (first | (with_reducible exact S6) | (with_reducible refine Row4.alloc ?_ _) | (with_reducible refine Row4.drew ?_)))
    have apT_A := A6.lt
    have apT_B := B6.lt
    have apT_P := P6.lt
    have apT_Q := Q6.lt
    have apT_S := S6.lt
    have apT_0 := (BW6).size
    have T7 : Row4 w7 w6.heap.size (.int .u64 a0) (.int .u64 a1) (.int .u64 a2) (.int .u64 0) := by rw [← hw7]; exact (by repeat (first | (with_reducible exact Row4.new _ _ _ _ _) | ((with_reducible refine Row4.new' _ ?_ _ _ _ _); (simp; done)) | (with_reducible refine Row4.alloc ?_ _) | (with_reducible refine Row4.drew ?_)))
    clear A6 B6 P6 Q6 S6
    clear BW6
    clear hw7
    obtain ⟨Ac0, Ac1, Ac2, Ac3⟩ := A7.four
    obtain ⟨Af0, Af1, Af2, Af3⟩ := A7.free4
    obtain ⟨Bc0, Bc1, Bc2, Bc3⟩ := B7.four
    obtain ⟨Bf0, Bf1, Bf2, Bf3⟩ := B7.free4
    go_wp2_with fail
    (with_reducible refine (C5.out _).mono ?_)
    rintro e w8 ⟨rfl, hb⟩
    have BW8 : Below w.heap.size w w8 := btr (by repeat (first | (with_reducible exact BW7) | (with_reducible refine bal ?_ _) | (with_reducible refine Below.drew ?_) | (with_reducible refine bdn ?_ _))) hb
    have A8 : Row4 w8 w.heap.size (.int .u64 a0) (.int .u64 a1) (.int .u64 a2) (.int .u64 0) := Row4.keep hb (by repeat (first | (with_reducible exact A7) | (with_reducible refine Row4.alloc ?_ _) | (with_reducible refine Row4.drew ?_)))
    have B8 : Row4 w8 (w.heap.size + 1) (.int .u64 b0) (.int .u64 b1) (.int .u64 b2) (.int .u64 0) := Row4.keep hb (by repeat (first | (with_reducible exact B7) | (with_reducible refine Row4.alloc ?_ _) | (with_reducible refine Row4.drew ?_)))
    have P8 : Row4 w8 w1.heap.size (.int .u64 p0) (.int .u64 p1) (.int .u64 p2) (.int .u64 p3) := Row4.keep hb (by repeat (first | (with_reducible exact P7) | (with_reducible refine Row4.alloc ?_ _) | (with_reducible refine Row4.drew ?_)))
    have Q8 : Row4 w8 w3.heap.size (.int .u64 a0) (.int .u64 a1) (.int .u64 a2) (.int .u64 0) := Row4.keep hb (by repeat (first | (with_reducible exact Q7) | (with_reducible refine Row4.alloc ?_ _) | (with_reducible refine Row4.drew ?_)))
    have S8 : Row4 w8 pS (.int .u64 s0) (.int .u64 s1) (.int .u64 s2) (.int .u64 s3) := Row4.keep hb (by repeat (first | (with_reducible exact S7) | (with_reducible refine Row4.alloc ?_ _) | (with_reducible refine Row4.drew ?_)))
    have T8 : Row4 w8 w6.heap.size (.int .u64 a0) (.int .u64 a1) (.int .u64 a2) (.int .u64 0) := Row4.keep hb (by repeat (first | (with_reducible exact T7) | (with_reducible refine Row4.alloc ?_ _) | (with_reducible refine Row4.drew ?_)))
    clear A7 B7 P7 Q7 S7 T7
    clear BW7
    clear hb
    go_upto_region 8 with (fail)
    go_name_world w9 hw9
    have BW9 : Below w.heap.size w w9 := by rw [← hw9]; repeat (first | (with_reducible exact BW8) | (with_reducible refine bal ?_ _) | (with_reducible refine Below.drew ?_) | (with_reducible refine bdn ?_ _))
    have A9 : Row4 w9 w.heap.size (.int .u64 a0) (.int .u64 a1) (.int .u64 a2) (.int .u64 0) := by rw [← hw9]; exact (by repeat (first | (with_reducible exact A8) | (with_reducible refine Row4.alloc ?_ _) | (with_reducible refine Row4.drew ?_)))
    have B9 : Row4 w9 (w.heap.size + 1) (.int .u64 b0) (.int .u64 b1) (.int .u64 b2) (.int .u64 0) := by rw [← hw9]; exact (by repeat (first | (with_reducible exact B8) | (with_reducible refine Row4.alloc ?_ _) | (with_reducible refine Row4.drew ?_)))
    have P9 : Row4 w9 w1.heap.size (.int .u64 p0) (.int .u64 p1) (.int .u64 p2) (.int .u64 p3) := by rw [← hw9]; exact (by repeat (first | (with_reducible exact P8) | (with_reducible refine Row4.alloc ?_ _) | (with_reducible refine Row4.drew ?_)))
    have Q9 : Row4 w9 w3.heap.size (.int .u64 a0) (.int .u64 a1) (.int .u64 a2) (.int .u64 0) := by rw [← hw9]; exact (by repeat (first | (with_reducible exact Q8) | (with_reducible refine Row4.alloc ?_ _) | (with_reducible refine Row4.drew ?_)))
    have S9 : Row4 w9 pS (.int .u64 s0) (.int .u64 s1) (.int .u64 s2) (.int .u64 s3) := by rw [← hw9]; exact (by repeat (first | (with_reducible exact S8) | (with_reducible refine Row4.alloc ?_ _) | (with_reducible refine Row4.drew ?_)))
    have T9 : Row4 w9 w6.heap.size (.int .u64 a0) (.int .u64 a1) (.int .u64 a2) (.int .u64 0) := by rw [← hw9]; exact (by repeat (first | (with_reducible exact T8) | (with_reducible refine Row4.alloc ?_ _) | (with_reducible refine Row4.drew ?_)))
    have apX_A := A8.lt
    have apX_B := B8.lt
    have apX_P := P8.lt
    have apX_Q := Q8.lt
    have apX_S := S8.lt
    have apX_T := T8.lt
    have apX_0 := (BW8).size
    have X9 : Row4 w9 w8.heap.size (.int .u64 x0) (.int .u64 x1) (.int .u64 x2) (.int .u64 x3) := by rw [← hw9]; exact (by repeat (first | (with_reducible exact Row4.new _ _ _ _ _) | ((with_reducible refine Row4.new' _ ?_ _ _ _ _); (simp; done)) | (with_reducible refine Row4.alloc ?_ _) | (with_reducible refine Row4.drew ?_)))
    clear A8 B8 P8 Q8 S8 T8
    clear BW8
    clear hw9
    obtain ⟨Ac0, Ac1, Ac2, Ac3⟩ := A9.four
    obtain ⟨Af0, Af1, Af2, Af3⟩ := A9.free4
    obtain ⟨Xc0, Xc1, Xc2, Xc3⟩ := X9.four
    obtain ⟨Xf0, Xf1, Xf2, Xf3⟩ := X9.free4
    go_wp2_with fail
    (with_reducible refine (C6.out _).mono ?_)
    rintro e w10 ⟨rfl, hb⟩
    have BW10 : Below w.heap.size w w10 := btr (by repeat (first | (with_reducible exact BW9) | (with_reducible refine bal ?_ _) | (with_reducible refine Below.drew ?_) | (with_reducible refine bdn ?_ _))) hb
    have A10 : Row4 w10 w.heap.size (.int .u64 a0) (.int .u64 a1) (.int .u64 a2) (.int .u64 0) := Row4.keep hb (by repeat (first | (with_reducible exact A9) | (with_reducible refine Row4.alloc ?_ _) | (with_reducible refine Row4.drew ?_)))
    have B10 : Row4 w10 (w.heap.size + 1) (.int .u64 b0) (.int .u64 b1) (.int .u64 b2) (.int .u64 0) := Row4.keep hb (by repeat (first | (with_reducible exact B9) | (with_reducible refine Row4.alloc ?_ _) | (with_reducible refine Row4.drew ?_)))
    have P10 : Row4 w10 w1.heap.size (.int .u64 p0) (.int .u64 p1) (.int .u64 p2) (.int .u64 p3) := Row4.keep hb (by repeat (first | (with_reducible exact P9) | (with_reducible refine Row4.alloc ?_ _) | (with_reducible refine Row4.drew ?_)))
    have Q10 : Row4 w10 w3.heap.size (.int .u64 a0) (.int .u64 a1) (.int .u64 a2) (.int .u64 0) := Row4.keep hb (by repeat (first | (with_reducible exact Q9) | (with_reducible refine Row4.alloc ?_ _) | (with_reducible refine Row4.drew ?_)))
    have S10 : Row4 w10 pS (.int .u64 s0) (.int .u64 s1) (.int .u64 s2) (.int .u64 s3) := Row4.keep hb (by repeat (first | (with_reducible exact S9) | (with_reducible refine Row4.alloc ?_ _) | (with_reducible refine Row4.drew ?_)))
    have T10 : Row4 w10 w6.heap.size (.int .u64 a0) (.int .u64 a1) (.int .u64 a2) (.int .u64 0) := Row4.keep hb (by repeat (first | (with_reducible exact T9) | (with_reducible refine Row4.alloc ?_ _) | (with_reducible refine Row4.drew ?_)))
    have X10 : Row4 w10 w8.heap.size (.int .u64 x0) (.int .u64 x1) (.int .u64 x2) (.int .u64 x3) := Row4.keep hb (by repeat (first | (with_reducible exact X9) | (with_reducible refine Row4.alloc ?_ _) | (with_reducible refine Row4.drew ?_)))
    clear A9 B9 P9 Q9 S9 T9 X9
    clear BW9
    clear hb
    go_upto_region 9 with (fail)
    go_name_world w11 hw11
    have BW11 : Below w.heap.size w w11 := by rw [← hw11]; repeat (first | (with_reducible exact BW10) | (with_reducible refine bal ?_ _) | (with_reducible refine Below.drew ?_) | (with_reducible refine bdn ?_ _))
    have A11 : Row4 w11 w.heap.size (.int .u64 a0) (.int .u64 a1) (.int .u64 a2) (.int .u64 0) := by rw [← hw11]; exact (by repeat (first | (with_reducible exact A10) | (with_reducible refine Row4.alloc ?_ _) | (with_reducible refine Row4.drew ?_)))
    have B11 : Row4 w11 (w.heap.size + 1) (.int .u64 b0) (.int .u64 b1) (.int .u64 b2) (.int .u64 0) := by rw [← hw11]; exact (by repeat (first | (with_reducible exact B10) | (with_reducible refine Row4.alloc ?_ _) | (with_reducible refine Row4.drew ?_)))
    have P11 : Row4 w11 w1.heap.size (.int .u64 p0) (.int .u64 p1) (.int .u64 p2) (.int .u64 p3) := by rw [← hw11]; exact (by repeat (first | (with_reducible exact P10) | (with_reducible refine Row4.alloc ?_ _) | (with_reducible refine Row4.drew ?_)))
    have Q11 : Row4 w11 w3.heap.size (.int .u64 a0) (.int .u64 a1) (.int .u64 a2) (.int .u64 0) := by rw [← hw11]; exact (by repeat (first | (with_reducible exact Q10) | (with_reducible refine Row4.alloc ?_ _) | (with_reducible refine Row4.drew ?_)))
    have S11 : Row4 w11 pS (.int .u64 s0) (.int .u64 s1) (.int .u64 s2) (.int .u64 s3) := by rw [← hw11]; exact (by repeat (first | (with_reducible exact S10) | (with_reducible refine Row4.alloc ?_ _) | (with_reducible refine Row4.drew ?_)))
    have T11 : Row4 w11 w6.heap.size (.int .u64 a0) (.int .u64 a1) (.int .u64 a2) (.int .u64 0) := by rw [← hw11]; exact (by repeat (first | (with_reducible exact T10) | (with_reducible refine Row4.alloc ?_ _) | (with_reducible refine Row4.drew ?_)))
    have X11 : Row4 w11 w8.heap.size (.int .u64 x0) (.int .u64 x1) (.int .u64 x2) (.int .u64 x3) := by rw [← hw11]; exact (by repeat (first | (with_reducible exact X10) | (with_reducible refine Row4.alloc ?_ _) | (with_reducible refine Row4.drew ?_)))
    have apY_A := A10.lt
    have apY_B := B10.lt
    have apY_P := P10.lt
    have apY_Q := Q10.lt
    have apY_S := S10.lt
    have apY_T := T10.lt
    have apY_X := X10.lt
    have apY_0 := (BW10).size
    have Y11 : Row4 w11 w10.heap.size (.int .u64 b0) (.int .u64 b1) (.int .u64 b2) (.int .u64 0) := by rw [← hw11]; exact (by repeat (first | (with_reducible exact Row4.new _ _ _ _ _) | ((with_reducible refine Row4.new' _ ?_ _ _ _ _); (simp; done)) | (with_reducible refine Row4.alloc ?_ _) | (with_reducible refine Row4.drew ?_)))
    clear A10 B10 P10 Q10 S10 T10 X10
    clear BW10
    clear hw11
    obtain ⟨Ac0, Ac1, Ac2, Ac3⟩ := A11.four
    obtain ⟨Af0, Af1, Af2, Af3⟩ := A11.free4
    obtain ⟨Xc0, Xc1, Xc2, Xc3⟩ := X11.four
    obtain ⟨Xf0, Xf1, Xf2, Xf3⟩ := X11.free4
    go_wp2_with fail
    (with_reducible refine (C7.out _).mono ?_)
    rintro e w12 ⟨rfl, hb⟩
    have BW12 : Below w.heap.size w w12 := btr (by repeat (first | (with_reducible exact BW11) | (with_reducible refine bal ?_ _) | (with_reducible refine Below.drew ?_) | (with_reducible refine bdn ?_ _))) hb
    have A12 : Row4 w12 w.heap.size (.int .u64 a0) (.int .u64 a1) (.int .u64 a2) (.int .u64 0) := Row4.keep hb (by repeat (first | (with_reducible exact A11) | (with_reducible refine Row4.alloc ?_ _) | (with_reducible refine Row4.drew ?_)))
    have B12 : Row4 w12 (w.heap.size + 1) (.int .u64 b0) (.int .u64 b1) (.int .u64 b2) (.int .u64 0) := Row4.keep hb (by repeat (first | (with_reducible exact B11) | (with_reducible refine Row4.alloc ?_ _) | (with_reducible refine Row4.drew ?_)))
    have P12 : Row4 w12 w1.heap.size (.int .u64 p0) (.int .u64 p1) (.int .u64 p2) (.int .u64 p3) := Row4.keep hb (by repeat (first | (with_reducible exact P11) | (with_reducible refine Row4.alloc ?_ _) | (with_reducible refine Row4.drew ?_)))
    have Q12 : Row4 w12 w3.heap.size (.int .u64 a0) (.int .u64 a1) (.int .u64 a2) (.int .u64 0) := Row4.keep hb (by repeat (first | (with_reducible exact Q11) | (with_reducible refine Row4.alloc ?_ _) | (with_reducible refine Row4.drew ?_)))
    have S12 : Row4 w12 pS (.int .u64 s0) (.int .u64 s1) (.int .u64 s2) (.int .u64 s3) := Row4.keep hb (by repeat (first | (with_reducible exact S11) | (with_reducible refine Row4.alloc ?_ _) | (with_reducible refine Row4.drew ?_)))
    have T12 : Row4 w12 w6.heap.size (.int .u64 a0) (.int .u64 a1) (.int .u64 a2) (.int .u64 0) := Row4.keep hb (by repeat (first | (with_reducible exact T11) | (with_reducible refine Row4.alloc ?_ _) | (with_reducible refine Row4.drew ?_)))
    have X12 : Row4 w12 w8.heap.size (.int .u64 x0) (.int .u64 x1) (.int .u64 x2) (.int .u64 x3) := Row4.keep hb (by repeat (first | (with_reducible exact X11) | (with_reducible refine Row4.alloc ?_ _) | (with_reducible refine Row4.drew ?_)))
    have Y12 : Row4 w12 w10.heap.size (.int .u64 b0) (.int .u64 b1) (.int .u64 b2) (.int .u64 0) := Row4.keep hb (by repeat (first | (with_reducible exact Y11) | (with_reducible refine Row4.alloc ?_ _) | (with_reducible refine Row4.drew ?_)))
    clear A11 B11 P11 Q11 S11 T11 X11 Y11
    clear BW11
    clear hb
    go_upto_region 10 with (fail)
    go_name_world w13 hw13
    have BW13 : Below w.heap.size w w13 := by rw [← hw13]; repeat (first | (with_reducible exact BW12) | (with_reducible refine bal ?_ _) | (with_reducible refine Below.drew ?_) | (with_reducible refine bdn ?_ _))
    have A13 : Row4 w13 w.heap.size (.int .u64 a0) (.int .u64 a1) (.int .u64 a2) (.int .u64 0) := by rw [← hw13]; exact (by repeat (first | (with_reducible exact A12) | (with_reducible refine Row4.alloc ?_ _) | (with_reducible refine Row4.drew ?_)))
    have B13 : Row4 w13 (w.heap.size + 1) (.int .u64 b0) (.int .u64 b1) (.int .u64 b2) (.int .u64 0) := by rw [← hw13]; exact (by repeat (first | (with_reducible exact B12) | (with_reducible refine Row4.alloc ?_ _) | (with_reducible refine Row4.drew ?_)))
    have P13 : Row4 w13 w1.heap.size (.int .u64 p0) (.int .u64 p1) (.int .u64 p2) (.int .u64 p3) := by rw [← hw13]; exact (by repeat (first | (with_reducible exact P12) | (with_reducible refine Row4.alloc ?_ _) | (with_reducible refine Row4.drew ?_)))
    have Q13 : Row4 w13 w3.heap.size (.int .u64 a0) (.int .u64 a1) (.int .u64 a2) (.int .u64 0) := by rw [← hw13]; exact (by repeat (first | (with_reducible exact Q12) | (with_reducible refine Row4.alloc ?_ _) | (with_reducible refine Row4.drew ?_)))
    have S13 : Row4 w13 pS (.int .u64 s0) (.int .u64 s1) (.int .u64 s2) (.int .u64 s3) := by rw [← hw13]; exact (by repeat (first | (with_reducible exact S12) | (with_reducible refine Row4.alloc ?_ _) | (with_reducible refine Row4.drew ?_)))
    have T13 : Row4 w13 w6.heap.size (.int .u64 a0) (.int .u64 a1) (.int .u64 a2) (.int .u64 0) := by rw [← hw13]; exact (by repeat (first | (with_reducible exact T12) | (with_reducible refine Row4.alloc ?_ _) | (with_reducible refine Row4.drew ?_)))
    have X13 : Row4 w13 w8.heap.size (.int .u64 x0) (.int .u64 x1) (.int .u64 x2) (.int .u64 x3) := by rw [← hw13]; exact (by repeat (first | (with_reducible exact X12) | (with_reducible refine Row4.alloc ?_ _) | (with_reducible refine Row4.drew ?_)))
    have Y13 : Row4 w13 w10.heap.size (.int .u64 b0) (.int .u64 b1) (.int .u64 b2) (.int .u64 0) := by rw [← hw13]; exact (by repeat (first | (with_reducible exact Y12) | (with_reducible refine Row4.alloc ?_ _) | (with_reducible refine Row4.drew ?_)))
    have apZ_A := A12.lt
    have apZ_B := B12.lt
    have apZ_P := P12.lt
    have apZ_Q := Q12.lt
    have apZ_S := S12.lt
    have apZ_T := T12.lt
    have apZ_X := X12.lt
    have apZ_Y := Y12.lt
    have apZ_0 := (BW12).size
    have Z13 : Row4 w13 w12.heap.size (.int .u64 z0) (.int .u64 z1) (.int .u64 z2) (.int .u64 z3) := by rw [← hw13]; exact (by repeat (first | (with_reducible exact Row4.new _ _ _ _ _) | ((with_reducible refine Row4.new' _ ?_ _ _ _ _); (simp; done)) | (with_reducible refine Row4.alloc ?_ _) | (with_reducible refine Row4.drew ?_)))
    clear A12 B12 P12 Q12 S12 T12 X12 Y12
    clear BW12
    clear hw13
    go_wp2_with fail
    refine (told_true _ (tab_on HT.out (by repeat (first | (with_reducible exact BW13) | (with_reducible refine bal ?_ _) | (with_reducible refine Below.drew ?_) | (with_reducible refine bdn ?_ _))))).mono ?_
    rintro e w14 ⟨rfl, hb⟩
    have BW14 : Below w.heap.size w w14 := btr (by repeat (first | (with_reducible exact BW13) | (with_reducible refine bal ?_ _) | (with_reducible refine Below.drew ?_) | (with_reducible refine bdn ?_ _))) hb
    have A14 : Row4 w14 w.heap.size (.int .u64 a0) (.int .u64 a1) (.int .u64 a2) (.int .u64 0) := Row4.keep hb (by repeat (first | (with_reducible exact A13) | (with_reducible refine Row4.alloc ?_ _) | (with_reducible refine Row4.drew ?_)))
    have B14 : Row4 w14 (w.heap.size + 1) (.int .u64 b0) (.int .u64 b1) (.int .u64 b2) (.int .u64 0) := Row4.keep hb (by repeat (first | (with_reducible exact B13) | (with_reducible refine Row4.alloc ?_ _) | (with_reducible refine Row4.drew ?_)))
    have P14 : Row4 w14 w1.heap.size (.int .u64 p0) (.int .u64 p1) (.int .u64 p2) (.int .u64 p3) := Row4.keep hb (by repeat (first | (with_reducible exact P13) | (with_reducible refine Row4.alloc ?_ _) | (with_reducible refine Row4.drew ?_)))
    have Q14 : Row4 w14 w3.heap.size (.int .u64 a0) (.int .u64 a1) (.int .u64 a2) (.int .u64 0) := Row4.keep hb (by repeat (first | (with_reducible exact Q13) | (with_reducible refine Row4.alloc ?_ _) | (with_reducible refine Row4.drew ?_)))
    have S14 : Row4 w14 pS (.int .u64 s0) (.int .u64 s1) (.int .u64 s2) (.int .u64 s3) := Row4.keep hb (by repeat (first | (with_reducible exact S13) | (with_reducible refine Row4.alloc ?_ _) | (with_reducible refine Row4.drew ?_)))
    have T14 : Row4 w14 w6.heap.size (.int .u64 a0) (.int .u64 a1) (.int .u64 a2) (.int .u64 0) := Row4.keep hb (by repeat (first | (with_reducible exact T13) | (with_reducible refine Row4.alloc ?_ _) | (with_reducible refine Row4.drew ?_)))
    have X14 : Row4 w14 w8.heap.size (.int .u64 x0) (.int .u64 x1) (.int .u64 x2) (.int .u64 x3) := Row4.keep hb (by repeat (first | (with_reducible exact X13) | (with_reducible refine Row4.alloc ?_ _) | (with_reducible refine Row4.drew ?_)))
    have Y14 : Row4 w14 w10.heap.size (.int .u64 b0) (.int .u64 b1) (.int .u64 b2) (.int .u64 0) := Row4.keep hb (by repeat (first | (with_reducible exact Y13) | (with_reducible refine Row4.alloc ?_ _) | (with_reducible refine Row4.drew ?_)))
    have Z14 : Row4 w14 w12.heap.size (.int .u64 z0) (.int .u64 z1) (.int .u64 z2) (.int .u64 z3) := Row4.keep hb (by repeat (first | (with_reducible exact Z13) | (with_reducible refine Row4.alloc ?_ _) | (with_reducible refine Row4.drew ?_)))
    clear A13 B13 P13 Q13 S13 T13 X13 Y13 Z13
    clear BW13
    clear hb
    obtain ⟨Ac0, Ac1, Ac2, Ac3⟩ := A14.four
    obtain ⟨Af0, Af1, Af2, Af3⟩ := A14.free4
    obtain ⟨Bc0, Bc1, Bc2, Bc3⟩ := B14.four
    obtain ⟨Bf0, Bf1, Bf2, Bf3⟩ := B14.free4
    obtain ⟨Qc0, Qc1, Qc2, Qc3⟩ := Q14.four
    obtain ⟨Qf0, Qf1, Qf2, Qf3⟩ := Q14.free4
    obtain ⟨Tc0, Tc1, Tc2, Tc3⟩ := T14.four
    obtain ⟨Tf0, Tf1, Tf2, Tf3⟩ := T14.free4
    obtain ⟨Yc0, Yc1, Yc2, Yc3⟩ := Y14.four
    obtain ⟨Yf0, Yf1, Yf2, Yf3⟩ := Y14.free4
    go_wp2
    go_ret
    exact ⟨rfl, BW14⟩

theorem times_any (x y m0 : Nat) (hx : x < 2 ^ 192) (hy : y < 2 ^ 192) (a3 b3 : Int) (hm0 : m0 < 18446744073709551616) (w : World) (htab : Tab w) :
    Calls Tryd.prog 8 #[.agg #[.int .u64 (lb 0 x), .int .u64 (lb 1 x), .int .u64 (lb 2 x), .int .u64 a3], .agg #[.int .u64 (lb 0 y), .int .u64 (lb 1 y), .int .u64 (lb 2 y), .int .u64 b3], .int .u64 m0] w fun e w' => e = .returned (.bool true) ∧ Below w.heap.size w w' := by
  obtain ⟨m, hm⟩ : ∃ m : Nat, m = max m0 1 := ⟨_, rfl⟩
  have m1 : 1 ≤ m := by omega
  have m2 : m < 18446744073709551616 := by omega
  have x256 : x < 2 ^ 256 := by omega
  have y256 : y < 2 ^ 256 := by omega
  have lx : lb 3 x = 0 := by rw [lb3]; omega
  have ly : lb 3 y = 0 := by rw [lb3]; omega
  have hp : x * m < 2 ^ 256 := by
    have : x * m ≤ (2 ^ 192 - 1) * 18446744073709551615 := Nat.mul_le_mul (by omega) (by omega)
    omega
  have hs : x * m + (m - 1) < 2 ^ 256 := by
    have : x * m ≤ (2 ^ 192 - 1) * 18446744073709551615 := Nat.mul_le_mul (by omega) (by omega)
    omega
  have c1 := fun W => mul_ok x m x256 m2 hp W
  have c2 := fun W => div_any (x * m) m hp (by omega) m2 W
  rw [Nat.mul_div_cancel _ (by omega), Nat.mul_mod_left] at c2
  have c3 := fun W => add_ok (x * m) (m - 1) hp (by omega) hs W
  have c4 := fun W => div_any (x * m + (m - 1)) m hs (by omega) m2 W
  rw [Nat.mul_comm x m, Nat.mul_add_div (by omega), Nat.mul_add_mod, Nat.div_eq_of_lt (show m - 1 < m by omega), Nat.mod_eq_of_lt (show m - 1 < m by omega), Nat.add_zero, Nat.mul_comm m x] at c4
  have c5 := fun W => add_ok x y x256 y256 (by omega) W
  have c6 := fun W => sub_ok (x + y) x (by omega) x256 (by omega) W
  rw [Nat.add_sub_cancel_left] at c6
  have c7 : ∃ z : Nat, ∀ W, Calls Tryd.prog 19 #[N4 x, N4 (x + y)] W fun e w' => e = .returned (.tuple #[N4 z, .bool (eq4 (lb 0 y) (lb 1 y) (lb 2 y) 0 0 0 0 0)]) ∧ Below W.heap.size W w' := by
    have hq := eq4_nat y 0 y256 (by decide)
    rw [lb_zero, lb_zero, lb_zero, lb_zero, ly] at hq
    by_cases h : y = 0
    · subst h
      refine ⟨x - (x + 0), fun W => ?_⟩
      rw [hq, decide_eq_true rfl]
      exact sub_ok x (x + 0) x256 x256 (by omega) W
    · refine ⟨0, fun W => ?_⟩
      rw [hq, decide_eq_false h]
      exact sub_under x (x + y) x256 (by omega) (by omega) W
  obtain ⟨z, c7⟩ := c7
  have hqa := eq4_nat x x x256 x256
  rw [decide_eq_true rfl] at hqa
  have hqb := eq4_nat y y y256 y256
  rw [decide_eq_true rfl] at hqb
  have n1 : ((m - 1 : Nat) : Int) = (m : Int) - 1 := by omega
  have e1 : N4 (m - 1) = .agg #[.int .u64 ((m : Int) - 1), .int .u64 0, .int .u64 0, .int .u64 0] := by
    unfold N4
    rw [show lb 0 (m - 1) = (m : Int) - 1 from by rw [lb0]; omega, show lb 1 (m - 1) = 0 from by rw [lb1]; omega, show lb 2 (m - 1) = 0 from by rw [lb2]; omega, show lb 3 (m - 1) = 0 from by rw [lb3]; omega]
  have ex : N4 x = .agg #[.int .u64 (lb 0 x), .int .u64 (lb 1 x), .int .u64 (lb 2 x), .int .u64 0] := by unfold N4; rw [lx]
  have ey : N4 y = .agg #[.int .u64 (lb 0 y), .int .u64 (lb 1 y), .int .u64 (lb 2 y), .int .u64 0] := by unfold N4; rw [ly]
  rw [lx] at hqa
  rw [ly] at hqb
  simp only [ex] at c1 c2 c4 c5 c6 c7
  simp only [ey] at c5 c6
  simp only [e1] at c3
  simp only [n1] at c4
  exact times_core _ _ _ a3 _ _ _ b3 _ _ _ _ _ _ _ _ _ _ _ _ _ _ _ _ (m0 : Int) (m : Int) (by omega) (by rw [IntKind.wrap_u64]; omega) c1 c2 c3 c4 c5 c6 c7 hqa hqb w htab
theorem lb_low (x i : Nat) (hi : i < 3) : lb i (x % 2 ^ 192) = lb i x := by
  have : i = 0 ∨ i = 1 ∨ i = 2 := by omega
  rcases this with rfl | rfl | rfl
  · rw [lb0, lb0]; omega
  · rw [lb1, lb1]; omega
  · rw [lb2, lb2]; omega
theorem times_all (x y : Nat) (m0 : Int) (h0 : 0 ≤ m0) (h1 : m0 ≤ 18446744073709551615) (w : World) (htab : Tab w) :
    Calls Tryd.prog 8 #[N4 x, N4 y, .int .u64 m0] w fun e w' => e = .returned (.bool true) ∧ Below w.heap.size w w' := by
  obtain ⟨m, rfl⟩ := Int.eq_ofNat_of_zero_le h0
  have := times_any (x % 2 ^ 192) (y % 2 ^ 192) m (Nat.mod_lt _ (by decide)) (Nat.mod_lt _ (by decide)) (lb 3 x) (lb 3 y) (by omega) w htab
  simp only [lb_low x 0 (by decide), lb_low x 1 (by decide), lb_low x 2 (by decide), lb_low y 0 (by decide), lb_low y 1 (by decide), lb_low y 2 (by decide)] at this
  exact this

end Go.Proofs.YtbegblkfdnaloaaDoor
