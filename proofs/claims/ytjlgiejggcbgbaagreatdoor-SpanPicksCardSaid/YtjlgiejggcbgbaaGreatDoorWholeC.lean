/-
  whole.Next, Prev (downward), ToInt, ToUint: the contracts, for all whole numbers of a sign and four words.
-/
import Derived.Test.YtjlgiejggcbgbaaGreatDoorWholeB
import Derived.Lib.ItoaWalk
namespace Go.Proofs.YtjlgiejggcbgbaaGreatDoor
open Go.RowKit Go.Shelf
attribute [local go_sem ↓] eql_nat neq_nat eql_int5 neq_int5

set_option maxHeartbeats 1000000 in
set_option maxRecDepth 100000 in
theorem next_neg (x0 x1 x2 x3 s0 s1 s2 s3 : Int) (b : Bool)
    (k1 : ∀ W, Calls Tryz.prog 88 #[.agg #[.int .u64 x0, .int .u64 x1, .int .u64 x2, .int .u64 x3], .agg #[.int .u64 1, .int .u64 0, .int .u64 0, .int .u64 0]] W fun e w' => e = .returned (.tuple #[.agg #[.int .u64 s0, .int .u64 s1, .int .u64 s2, .int .u64 s3], .bool b]) ∧ Below W.heap.size W w') (w : World) :
    Calls Tryz.prog 74 #[.agg #[.bool true, .int .u64 x0, .int .u64 x1, .int .u64 x2, .int .u64 x3]] w fun e w' => e = .returned (.tuple #[.agg #[.bool (!eq4 s0 s1 s2 s3 0 0 0 0), .int .u64 s0, .int .u64 s1, .int .u64 s2, .int .u64 s3], .bool b]) ∧ Below w.heap.size w w' := by
  have K1 := Lib.hid k1; clear k1
  go_enter Tryz.func74, Tryz.ntmps74
  go_upto_region 2 with (fail)
  go_name_world w1 hw1
  have BW1 : Below w.heap.size w w1 := by rw [← hw1]; repeat (first | (with_reducible exact Below.refl _ _) | (with_reducible refine bal ?_ _) | (with_reducible refine Below.drew ?_) | (with_reducible refine bdn ?_ _))
  have X1 : Row5 w1 w.heap.size (.bool true) (.int .u64 x0) (.int .u64 x1) (.int .u64 x2) (.int .u64 x3) := by rw [← hw1]; exact (by repeat (first | (with_reducible exact Row5.new _ _ _ _ _ _) | ((with_reducible refine Row5.new' _ ?_ _ _ _ _ _); (simp; done)) | (with_reducible refine Row5.alloc ?_ _) | (with_reducible refine Row5.drew ?_)))
  have R1 : Row5 w1 (w.heap.size + 1) (.bool false) (.int .u64 0) (.int .u64 0) (.int .u64 0) (.int .u64 0) := by rw [← hw1]; exact (by repeat (first | (with_reducible exact Row5.new _ _ _ _ _ _) | ((with_reducible refine Row5.new' _ ?_ _ _ _ _ _); (simp; done)) | (with_reducible refine Row5.alloc ?_ _) | (with_reducible refine Row5.drew ?_)))
  clear hw1
  have lt_X := X1.lt
  have lt_R := R1.lt
  go_cut [4, 5] (fun s4 s5 wx => ∃ p : Nat, s4 = .pointer (some ⟨p, 0, none⟩) ∧ s5 = .bool b ∧ Row4 wx p (.int .u64 s0) (.int .u64 s1) (.int .u64 s2) (.int .u64 s3) ∧ w1.heap.size ≤ p ∧ Below w1.heap.size w1 wx)
  case first =>
    go_region_held3 (fun w' => w'.cell? ⟨w.heap.size, 0, none⟩ = some (.bool true) ∧ w'.cell? ⟨w.heap.size, 1, none⟩ = some (.int .u64 x0) ∧ w'.cell? ⟨w.heap.size, 2, none⟩ = some (.int .u64 x1) ∧ w'.cell? ⟨w.heap.size, 3, none⟩ = some (.int .u64 x2) ∧ w'.cell? ⟨w.heap.size, 4, none⟩ = some (.int .u64 x3))
      ((refine Row5.parts ?_; (repeat (first | (with_reducible assumption) | (with_reducible refine Row5.alloc ?_ _) | (with_reducible refine Row5.drew ?_) | ((with_reducible refine Row5.set ?_ ?_ _); rotate_left; (focus (omega))))); done))
      (first | (go_at_call 68; refine (of_one _ _).mono ?_; rintro e w9 ⟨rfl, o1, rfl⟩) | (go_at_call 88; (with_reducible refine (K1.out _).mono ?_); rintro e wf1 ⟨rfl, hb1⟩; have Xf1 : Row5 wf1 w.heap.size (.bool true) (.int .u64 x0) (.int .u64 x1) (.int .u64 x2) (.int .u64 x3) := Row5.keep hb1 (by repeat (first | (with_reducible assumption) | (with_reducible refine Row5.alloc ?_ _) | (with_reducible refine Row5.drew ?_))); have ltXf1 := Xf1.lt; (first | (refine absorb (P := Row4 wf1 w1.heap.size (.int .u64 0) (.int .u64 0) (.int .u64 0) (.int .u64 0)) (Row4.keep hb1 ?_) (fun Z1 => ?_); (focus ((repeat (first | ((with_reducible refine Row4.new' _ ?_ _ _ _ _); (simp; done)) | (with_reducible refine Row4.alloc ?_ _) | (with_reducible refine Row4.drew ?_))); done))) | (refine absorb (P := Row4 wf1 (w1.heap.size + 1) (.int .u64 0) (.int .u64 0) (.int .u64 0) (.int .u64 0)) (Row4.keep hb1 ?_) (fun Z1 => ?_); (focus ((repeat (first | ((with_reducible refine Row4.new' _ ?_ _ _ _ _); (simp; done)) | (with_reducible refine Row4.alloc ?_ _) | (with_reducible refine Row4.drew ?_))); done))) | skip); (first | (obtain ⟨zc0, zc1, zc2, zc3⟩ := Z1.four; obtain ⟨zf0, zf1, zf2, zf3⟩ := Z1.free4) | skip)))
    all_goals
      have BB1 : Below w1.heap.size w1 wf1 := btr (by repeat (first | (with_reducible exact Below.refl _ _) | (with_reducible refine bal ?_ _) | (with_reducible refine Below.drew ?_) | (with_reducible refine bdn ?_ _))) hb1
      have hs := BB1.size
      go_wp2_with fail
      go_meet
      first
        | with_reducible exact ⟨_, rfl, rfl, Row4.new _ _ _ _ _, hs, bal BB1 _⟩
        | with_reducible exact ⟨_, rfl, rfl, Row4.set4 Z1 _ _ _ _, by omega, bsc4 BB1 (by omega) _ _ _ _⟩
  case rest =>
    obtain ⟨pP, rfl, rfl, Pq, hpP, hBP⟩ := hcut
    have hb := hBP
    generalize wc = w2 at *
    have BW2 : Below w.heap.size w w2 := btr BW1 hb
    have X2 : Row5 w2 w.heap.size (.bool true) (.int .u64 x0) (.int .u64 x1) (.int .u64 x2) (.int .u64 x3) := Row5.keep hb X1
    have R2 : Row5 w2 (w.heap.size + 1) (.bool false) (.int .u64 0) (.int .u64 0) (.int .u64 0) (.int .u64 0) := Row5.keep hb R1
    have P2 : Row4 w2 pP (.int .u64 s0) (.int .u64 s1) (.int .u64 s2) (.int .u64 s3) := Pq
    clear X1 R1 BW1 hb hBP Pq
    obtain ⟨Pc0, Pc1, Pc2, Pc3⟩ := P2.four
    obtain ⟨Pf0, Pf1, Pf2, Pf3⟩ := P2.free4
    go_wp2_with fail
    (with_reducible refine (signed_yes _ _ _ _ _).mono ?_)
    rintro e w3 ⟨rfl, hb⟩
    have BW3 : Below w.heap.size w w3 := btr (by repeat (first | (with_reducible exact BW2) | (with_reducible refine bal ?_ _) | (with_reducible refine Below.drew ?_) | (with_reducible refine bdn ?_ _))) hb
    have X3 : Row5 w3 w.heap.size (.bool true) (.int .u64 x0) (.int .u64 x1) (.int .u64 x2) (.int .u64 x3) := Row5.keep hb (by repeat (first | (with_reducible exact X2) | (with_reducible refine Row5.alloc ?_ _) | (with_reducible refine Row5.drew ?_)))
    have R3 : Row5 w3 (w.heap.size + 1) (.bool false) (.int .u64 0) (.int .u64 0) (.int .u64 0) (.int .u64 0) := Row5.keep hb (by repeat (first | (with_reducible exact R2) | (with_reducible refine Row5.alloc ?_ _) | (with_reducible refine Row5.drew ?_)))
    have P3 : Row4 w3 pP (.int .u64 s0) (.int .u64 s1) (.int .u64 s2) (.int .u64 s3) := Row4.keep hb (by repeat (first | (with_reducible exact P2) | (with_reducible refine Row4.alloc ?_ _) | (with_reducible refine Row4.drew ?_)))
    clear X2 R2 P2
    clear BW2
    clear hb
    obtain ⟨Rc0, Rc1, Rc2, Rc3, Rc4⟩ := R3.parts
    obtain ⟨Rf0, Rf1, Rf2, Rf3, Rf4⟩ := R3.free
    go_wp2
    exact bodyPost_ret (v := .tuple #[.agg #[.bool (!eq4 s0 s1 s2 s3 0 0 0 0), .int .u64 s0, .int .u64 s1, .int .u64 s2, .int .u64 s3], .bool b]) (by simp [results, Tryz.results74, go_sem, Rc0, Rc1, Rc2, Rc3, Rc4]) rfl ⟨rfl, bsc5 BW3 (by omega) _ _ _ _ _⟩

set_option maxHeartbeats 1000000 in
set_option maxRecDepth 100000 in
theorem next_pos (x0 x1 x2 x3 s0 s1 s2 s3 : Int) (b : Bool)
    (k1 : ∀ W, Calls Tryz.prog 67 #[.agg #[.int .u64 x0, .int .u64 x1, .int .u64 x2, .int .u64 x3], .agg #[.int .u64 1, .int .u64 0, .int .u64 0, .int .u64 0]] W fun e w' => e = .returned (.tuple #[.agg #[.int .u64 s0, .int .u64 s1, .int .u64 s2, .int .u64 s3], .bool b]) ∧ Below W.heap.size W w') (w : World) :
    Calls Tryz.prog 74 #[.agg #[.bool false, .int .u64 x0, .int .u64 x1, .int .u64 x2, .int .u64 x3]] w fun e w' => e = .returned (.tuple #[.agg #[.bool false, .int .u64 s0, .int .u64 s1, .int .u64 s2, .int .u64 s3], .bool b]) ∧ Below w.heap.size w w' := by
  have K1 := Lib.hid k1; clear k1
  go_enter Tryz.func74, Tryz.ntmps74
  go_upto_region 4 with (fail)
  go_name_world w1 hw1
  have BW1 : Below w.heap.size w w1 := by rw [← hw1]; repeat (first | (with_reducible exact Below.refl _ _) | (with_reducible refine bal ?_ _) | (with_reducible refine Below.drew ?_) | (with_reducible refine bdn ?_ _))
  have X1 : Row5 w1 w.heap.size (.bool false) (.int .u64 x0) (.int .u64 x1) (.int .u64 x2) (.int .u64 x3) := by rw [← hw1]; exact (by repeat (first | (with_reducible exact Row5.new _ _ _ _ _ _) | ((with_reducible refine Row5.new' _ ?_ _ _ _ _ _); (simp; done)) | (with_reducible refine Row5.alloc ?_ _) | (with_reducible refine Row5.drew ?_)))
  have R1 : Row5 w1 (w.heap.size + 1) (.bool false) (.int .u64 0) (.int .u64 0) (.int .u64 0) (.int .u64 0) := by rw [← hw1]; exact (by repeat (first | (with_reducible exact Row5.new _ _ _ _ _ _) | ((with_reducible refine Row5.new' _ ?_ _ _ _ _ _); (simp; done)) | (with_reducible refine Row5.alloc ?_ _) | (with_reducible refine Row5.drew ?_)))
  clear hw1
  have lt_X := X1.lt
  have lt_R := R1.lt
  go_cut [6, 7] (fun s6 s7 wx => ∃ p : Nat, s6 = .pointer (some ⟨p, 0, none⟩) ∧ s7 = .bool b ∧ Row4 wx p (.int .u64 s0) (.int .u64 s1) (.int .u64 s2) (.int .u64 s3) ∧ w1.heap.size ≤ p ∧ Below w1.heap.size w1 wx)
  case first =>
    go_region_held3 (fun w' => w'.cell? ⟨w.heap.size, 0, none⟩ = some (.bool false) ∧ w'.cell? ⟨w.heap.size, 1, none⟩ = some (.int .u64 x0) ∧ w'.cell? ⟨w.heap.size, 2, none⟩ = some (.int .u64 x1) ∧ w'.cell? ⟨w.heap.size, 3, none⟩ = some (.int .u64 x2) ∧ w'.cell? ⟨w.heap.size, 4, none⟩ = some (.int .u64 x3))
      ((refine Row5.parts ?_; (repeat (first | (with_reducible assumption) | (with_reducible refine Row5.alloc ?_ _) | (with_reducible refine Row5.drew ?_) | ((with_reducible refine Row5.set ?_ ?_ _); rotate_left; (focus (omega))))); done))
      (first | (go_at_call 68; refine (of_one _ _).mono ?_; rintro e w9 ⟨rfl, o1, rfl⟩) | (go_at_call 67; (with_reducible refine (K1.out _).mono ?_); rintro e wf1 ⟨rfl, hb1⟩; have Xf1 : Row5 wf1 w.heap.size (.bool false) (.int .u64 x0) (.int .u64 x1) (.int .u64 x2) (.int .u64 x3) := Row5.keep hb1 (by repeat (first | (with_reducible assumption) | (with_reducible refine Row5.alloc ?_ _) | (with_reducible refine Row5.drew ?_))); have ltXf1 := Xf1.lt; (first | (refine absorb (P := Row4 wf1 w1.heap.size (.int .u64 0) (.int .u64 0) (.int .u64 0) (.int .u64 0)) (Row4.keep hb1 ?_) (fun Z1 => ?_); (focus ((repeat (first | ((with_reducible refine Row4.new' _ ?_ _ _ _ _); (simp; done)) | (with_reducible refine Row4.alloc ?_ _) | (with_reducible refine Row4.drew ?_))); done))) | (refine absorb (P := Row4 wf1 (w1.heap.size + 1) (.int .u64 0) (.int .u64 0) (.int .u64 0) (.int .u64 0)) (Row4.keep hb1 ?_) (fun Z1 => ?_); (focus ((repeat (first | ((with_reducible refine Row4.new' _ ?_ _ _ _ _); (simp; done)) | (with_reducible refine Row4.alloc ?_ _) | (with_reducible refine Row4.drew ?_))); done))) | skip); (first | (obtain ⟨zc0, zc1, zc2, zc3⟩ := Z1.four; obtain ⟨zf0, zf1, zf2, zf3⟩ := Z1.free4) | skip)))
    all_goals
      have BB1 : Below w1.heap.size w1 wf1 := btr (by repeat (first | (with_reducible exact Below.refl _ _) | (with_reducible refine bal ?_ _) | (with_reducible refine Below.drew ?_) | (with_reducible refine bdn ?_ _))) hb1
      have hs := BB1.size
      go_wp2_with fail
      go_meet
      first
        | with_reducible exact ⟨_, rfl, rfl, Row4.new _ _ _ _ _, hs, bal BB1 _⟩
        | with_reducible exact ⟨_, rfl, rfl, Row4.set4 Z1 _ _ _ _, by omega, bsc4 BB1 (by omega) _ _ _ _⟩
  case rest =>
    obtain ⟨pP, rfl, rfl, Pq, hpP, hBP⟩ := hcut
    have hb := hBP
    generalize wc = w2 at *
    have BW2 : Below w.heap.size w w2 := btr BW1 hb
    have X2 : Row5 w2 w.heap.size (.bool false) (.int .u64 x0) (.int .u64 x1) (.int .u64 x2) (.int .u64 x3) := Row5.keep hb X1
    have R2 : Row5 w2 (w.heap.size + 1) (.bool false) (.int .u64 0) (.int .u64 0) (.int .u64 0) (.int .u64 0) := Row5.keep hb R1
    have P2 : Row4 w2 pP (.int .u64 s0) (.int .u64 s1) (.int .u64 s2) (.int .u64 s3) := Pq
    clear X1 R1 BW1 hb hBP Pq
    obtain ⟨Pc0, Pc1, Pc2, Pc3⟩ := P2.four
    obtain ⟨Pf0, Pf1, Pf2, Pf3⟩ := P2.free4
    go_wp2_with fail
    (with_reducible refine (signed_no _ _ _ _ _).mono ?_)
    rintro e w3 ⟨rfl, hb⟩
    have BW3 : Below w.heap.size w w3 := btr (by repeat (first | (with_reducible exact BW2) | (with_reducible refine bal ?_ _) | (with_reducible refine Below.drew ?_) | (with_reducible refine bdn ?_ _))) hb
    have X3 : Row5 w3 w.heap.size (.bool false) (.int .u64 x0) (.int .u64 x1) (.int .u64 x2) (.int .u64 x3) := Row5.keep hb (by repeat (first | (with_reducible exact X2) | (with_reducible refine Row5.alloc ?_ _) | (with_reducible refine Row5.drew ?_)))
    have R3 : Row5 w3 (w.heap.size + 1) (.bool false) (.int .u64 0) (.int .u64 0) (.int .u64 0) (.int .u64 0) := Row5.keep hb (by repeat (first | (with_reducible exact R2) | (with_reducible refine Row5.alloc ?_ _) | (with_reducible refine Row5.drew ?_)))
    have P3 : Row4 w3 pP (.int .u64 s0) (.int .u64 s1) (.int .u64 s2) (.int .u64 s3) := Row4.keep hb (by repeat (first | (with_reducible exact P2) | (with_reducible refine Row4.alloc ?_ _) | (with_reducible refine Row4.drew ?_)))
    clear X2 R2 P2
    clear BW2
    clear hb
    obtain ⟨Rc0, Rc1, Rc2, Rc3, Rc4⟩ := R3.parts
    obtain ⟨Rf0, Rf1, Rf2, Rf3, Rf4⟩ := R3.free
    go_wp2
    exact bodyPost_ret (v := .tuple #[.agg #[.bool false, .int .u64 s0, .int .u64 s1, .int .u64 s2, .int .u64 s3], .bool b]) (by simp [results, Tryz.results74, go_sem, Rc0, Rc1, Rc2, Rc3, Rc4]) rfl ⟨rfl, bsc5 BW3 (by omega) _ _ _ _ _⟩

theorem signed_any (g : Bool) (x0 x1 x2 x3 : Int) (w : World) :
    Calls Tryz.prog 70 #[.bool g, .agg #[.int .u64 x0, .int .u64 x1, .int .u64 x2, .int .u64 x3]] w fun e w' => e = .returned (.agg #[.bool (g && !eq4 x0 x1 x2 x3 0 0 0 0), .int .u64 x0, .int .u64 x1, .int .u64 x2, .int .u64 x3]) ∧ Below w.heap.size w w' := by
  cases g
  · exact signed_no _ _ _ _ _
  · exact signed_yes _ _ _ _ _

set_option maxHeartbeats 1000000 in
set_option maxRecDepth 100000 in
theorem down_next_no (w : World) (g : Bool) (x0 x1 x2 x3 : Int)
    (m1 : ∀ W, Calls Tryz.prog 26 #[.agg #[.bool g, .int .u64 x0, .int .u64 x1, .int .u64 x2, .int .u64 x3]] W fun e w' => e = .returned (.bool false) ∧ Below W.heap.size W w') :
    Calls Tryz.prog 71 #[.func (.func 74) #[] #[], .agg #[.bool g, .int .u64 x0, .int .u64 x1, .int .u64 x2, .int .u64 x3]] w fun e w' => e = .returned (.tuple #[Z5, .bool false]) ∧ Below w.heap.size w w' := by
  have M1 := Lib.hid m1; clear m1
  go_enter Tryz.func71, Tryz.ntmps71
  go_wp2_with fail
  (with_reducible refine (M1.out _).mono ?_)
  rintro e w1 ⟨rfl, hb⟩
  have BW1 : Below w.heap.size w w1 := btr (by repeat (first | (with_reducible exact Below.refl _ _) | (with_reducible refine bal ?_ _) | (with_reducible refine Below.drew ?_) | (with_reducible refine bdn ?_ _))) hb
  have X1 : Row5 w1 w.heap.size (.bool g) (.int .u64 x0) (.int .u64 x1) (.int .u64 x2) (.int .u64 x3) := Row5.keep hb (by repeat (first | (with_reducible exact Row5.new _ _ _ _ _ _) | ((with_reducible refine Row5.new' _ ?_ _ _ _ _ _); (simp; done)) | (with_reducible refine Row5.alloc ?_ _) | (with_reducible refine Row5.drew ?_)))
  have R1 : Row5 w1 (w.heap.size + 1) (.bool false) (.int .u64 0) (.int .u64 0) (.int .u64 0) (.int .u64 0) := Row5.keep hb (by repeat (first | (with_reducible exact Row5.new _ _ _ _ _ _) | ((with_reducible refine Row5.new' _ ?_ _ _ _ _ _); (simp; done)) | (with_reducible refine Row5.alloc ?_ _) | (with_reducible refine Row5.drew ?_)))
  clear hb
  obtain ⟨Xc0, Xc1, Xc2, Xc3, Xc4⟩ := X1.parts
  obtain ⟨Xf0, Xf1, Xf2, Xf3, Xf4⟩ := X1.free
  obtain ⟨Rc0, Rc1, Rc2, Rc3, Rc4⟩ := R1.parts
  obtain ⟨Rf0, Rf1, Rf2, Rf3, Rf4⟩ := R1.free
  go_wp2
  exact bodyPost_ret (v := .tuple #[Z5, .bool false]) (by simp [results, Tryz.results71, go_sem, Rc0, Rc1, Rc2, Rc3, Rc4]) rfl ⟨rfl, bsc5 BW1 (by omega) _ _ _ _ _⟩

set_option maxHeartbeats 1000000 in
set_option maxRecDepth 100000 in
theorem down_next_yes (w : World) (g : Bool) (x0 x1 x2 x3 : Int) (h : Bool) (s0 s1 s2 s3 : Int) (b : Bool)
    (m1 : ∀ W, Calls Tryz.prog 26 #[.agg #[.bool g, .int .u64 x0, .int .u64 x1, .int .u64 x2, .int .u64 x3]] W fun e w' => e = .returned (.bool true) ∧ Below W.heap.size W w')
    (k1 : ∀ W, Below w.heap.size w W → Calls Tryz.prog 74 #[.agg #[.bool (!g && !eq4 x0 x1 x2 x3 0 0 0 0), .int .u64 x0, .int .u64 x1, .int .u64 x2, .int .u64 x3]] W fun e w' => e = .returned (.tuple #[.agg #[.bool h, .int .u64 s0, .int .u64 s1, .int .u64 s2, .int .u64 s3], .bool b]) ∧ Below W.heap.size W w') :
    Calls Tryz.prog 71 #[.func (.func 74) #[] #[], .agg #[.bool g, .int .u64 x0, .int .u64 x1, .int .u64 x2, .int .u64 x3]] w fun e w' => e = .returned (.tuple #[.agg #[.bool (!h && !eq4 s0 s1 s2 s3 0 0 0 0), .int .u64 s0, .int .u64 s1, .int .u64 s2, .int .u64 s3], .bool b]) ∧ Below w.heap.size w w' := by
  have M1 := Lib.hid m1; clear m1
  have K1 := Lib.hid k1; clear k1
  go_enter Tryz.func71, Tryz.ntmps71
  go_wp2_with fail
  (with_reducible refine (M1.out _).mono ?_)
  rintro e w1 ⟨rfl, hb⟩
  have BW1 : Below w.heap.size w w1 := btr (by repeat (first | (with_reducible exact Below.refl _ _) | (with_reducible refine bal ?_ _) | (with_reducible refine Below.drew ?_) | (with_reducible refine bdn ?_ _))) hb
  have X1 : Row5 w1 w.heap.size (.bool g) (.int .u64 x0) (.int .u64 x1) (.int .u64 x2) (.int .u64 x3) := Row5.keep hb (by repeat (first | (with_reducible exact Row5.new _ _ _ _ _ _) | ((with_reducible refine Row5.new' _ ?_ _ _ _ _ _); (simp; done)) | (with_reducible refine Row5.alloc ?_ _) | (with_reducible refine Row5.drew ?_)))
  have R1 : Row5 w1 (w.heap.size + 1) (.bool false) (.int .u64 0) (.int .u64 0) (.int .u64 0) (.int .u64 0) := Row5.keep hb (by repeat (first | (with_reducible exact Row5.new _ _ _ _ _ _) | ((with_reducible refine Row5.new' _ ?_ _ _ _ _ _); (simp; done)) | (with_reducible refine Row5.alloc ?_ _) | (with_reducible refine Row5.drew ?_)))
  clear hb
  obtain ⟨Xc0, Xc1, Xc2, Xc3, Xc4⟩ := X1.parts
  obtain ⟨Xf0, Xf1, Xf2, Xf3, Xf4⟩ := X1.free
  obtain ⟨Rc0, Rc1, Rc2, Rc3, Rc4⟩ := R1.parts
  obtain ⟨Rf0, Rf1, Rf2, Rf3, Rf4⟩ := R1.free
  go_wp2_with fail
  (with_reducible refine (signed_any _ _ _ _ _ _).mono ?_)
  rintro e w2 ⟨rfl, hb⟩
  have BW2 : Below w.heap.size w w2 := btr (by repeat (first | (with_reducible exact BW1) | (with_reducible refine bal ?_ _) | (with_reducible refine Below.drew ?_) | (with_reducible refine bdn ?_ _))) hb
  have X2 : Row5 w2 w.heap.size (.bool g) (.int .u64 x0) (.int .u64 x1) (.int .u64 x2) (.int .u64 x3) := Row5.keep hb (by repeat (first | (with_reducible exact X1) | (with_reducible refine Row5.alloc ?_ _) | (with_reducible refine Row5.drew ?_)))
  have R2 : Row5 w2 (w.heap.size + 1) (.bool false) (.int .u64 0) (.int .u64 0) (.int .u64 0) (.int .u64 0) := Row5.keep hb (by repeat (first | (with_reducible exact R1) | (with_reducible refine Row5.alloc ?_ _) | (with_reducible refine Row5.drew ?_)))
  clear X1 R1
  clear BW1
  clear hb
  go_wp2_with fail
  refine (K1.out _ (by repeat (first | (with_reducible exact BW2) | (with_reducible refine bal ?_ _) | (with_reducible refine Below.drew ?_) | (with_reducible refine bdn ?_ _)))).mono ?_
  rintro e w3 ⟨rfl, hb⟩
  have BW3 : Below w.heap.size w w3 := btr (by repeat (first | (with_reducible exact BW2) | (with_reducible refine bal ?_ _) | (with_reducible refine Below.drew ?_) | (with_reducible refine bdn ?_ _))) hb
  have X3 : Row5 w3 w.heap.size (.bool g) (.int .u64 x0) (.int .u64 x1) (.int .u64 x2) (.int .u64 x3) := Row5.keep hb (by repeat (first | (with_reducible exact X2) | (with_reducible refine Row5.alloc ?_ _) | (with_reducible refine Row5.drew ?_)))
  have R3 : Row5 w3 (w.heap.size + 1) (.bool false) (.int .u64 0) (.int .u64 0) (.int .u64 0) (.int .u64 0) := Row5.keep hb (by repeat (first | (with_reducible exact R2) | (with_reducible refine Row5.alloc ?_ _) | (with_reducible refine Row5.drew ?_)))
  clear X2 R2
  clear BW2
  clear hb
  go_upto_region 4 with (fail)
  skip
  go_name_world w4 hw4
  have BW4 : Below w.heap.size w w4 := by rw [← hw4]; repeat (first | (with_reducible exact BW3) | (with_reducible refine bal ?_ _) | (with_reducible refine Below.drew ?_) | (with_reducible refine bdn ?_ _))
  have X4 : Row5 w4 w.heap.size (.bool g) (.int .u64 x0) (.int .u64 x1) (.int .u64 x2) (.int .u64 x3) := by rw [← hw4]; exact (by repeat (first | (with_reducible exact X3) | (with_reducible refine Row5.alloc ?_ _) | (with_reducible refine Row5.drew ?_)))
  have R4 : Row5 w4 (w.heap.size + 1) (.bool false) (.int .u64 0) (.int .u64 0) (.int .u64 0) (.int .u64 0) := by rw [← hw4]; exact (by repeat (first | (with_reducible exact R3) | (with_reducible refine Row5.alloc ?_ _) | (with_reducible refine Row5.drew ?_)))
  have apU_X := X3.lt
  have apU_R := R3.lt
  have apU_0 := (BW3).size
  have U4 : Row5 w4 w3.heap.size (.bool h) (.int .u64 s0) (.int .u64 s1) (.int .u64 s2) (.int .u64 s3) := by rw [← hw4]; exact (by repeat (first | (with_reducible exact Row5.new _ _ _ _ _ _) | ((with_reducible refine Row5.new' _ ?_ _ _ _ _ _); (simp; done)) | (with_reducible refine Row5.alloc ?_ _) | (with_reducible refine Row5.drew ?_)))
  clear X3 R3
  clear BW3
  clear hw4
  obtain ⟨Uc0, Uc1, Uc2, Uc3, Uc4⟩ := U4.parts
  obtain ⟨Uf0, Uf1, Uf2, Uf3, Uf4⟩ := U4.free
  go_wp2_with fail
  (with_reducible refine (signed_any _ _ _ _ _ _).mono ?_)
  rintro e w5 ⟨rfl, hb⟩
  have BW5 : Below w.heap.size w w5 := btr (by repeat (first | (with_reducible exact BW4) | (with_reducible refine bal ?_ _) | (with_reducible refine Below.drew ?_) | (with_reducible refine bdn ?_ _))) hb
  have X5 : Row5 w5 w.heap.size (.bool g) (.int .u64 x0) (.int .u64 x1) (.int .u64 x2) (.int .u64 x3) := Row5.keep hb (by repeat (first | (with_reducible exact X4) | (with_reducible refine Row5.alloc ?_ _) | (with_reducible refine Row5.drew ?_)))
  have R5 : Row5 w5 (w.heap.size + 1) (.bool false) (.int .u64 0) (.int .u64 0) (.int .u64 0) (.int .u64 0) := Row5.keep hb (by repeat (first | (with_reducible exact R4) | (with_reducible refine Row5.alloc ?_ _) | (with_reducible refine Row5.drew ?_)))
  have U5 : Row5 w5 w3.heap.size (.bool h) (.int .u64 s0) (.int .u64 s1) (.int .u64 s2) (.int .u64 s3) := Row5.keep hb (by repeat (first | (with_reducible exact U4) | (with_reducible refine Row5.alloc ?_ _) | (with_reducible refine Row5.drew ?_)))
  clear X4 R4 U4
  clear BW4
  clear hb
  obtain ⟨Rc0, Rc1, Rc2, Rc3, Rc4⟩ := R5.parts
  obtain ⟨Rf0, Rf1, Rf2, Rf3, Rf4⟩ := R5.free
  go_wp2
  exact bodyPost_ret (v := .tuple #[.agg #[.bool (!h && !eq4 s0 s1 s2 s3 0 0 0 0), .int .u64 s0, .int .u64 s1, .int .u64 s2, .int .u64 s3], .bool b]) (by simp [results, Tryz.results71, go_sem, Rc0, Rc1, Rc2, Rc3, Rc4]) rfl ⟨rfl, bsc5 BW5 (by omega) _ _ _ _ _⟩

set_option maxHeartbeats 1000000 in
set_option maxRecDepth 100000 in
theorem down_exact_no (w : World) (g : Bool) (x0 x1 x2 x3 : Int)
    (m1 : ∀ W, Calls Tryz.prog 26 #[.agg #[.bool g, .int .u64 x0, .int .u64 x1, .int .u64 x2, .int .u64 x3]] W fun e w' => e = .returned (.bool false) ∧ Below W.heap.size W w') :
    Calls Tryz.prog 71 #[.func (.func 39) #[] #[], .agg #[.bool g, .int .u64 x0, .int .u64 x1, .int .u64 x2, .int .u64 x3]] w fun e w' => e = .returned (.tuple #[Z5, .bool false]) ∧ Below w.heap.size w w' := by
  have M1 := Lib.hid m1; clear m1
  go_enter Tryz.func71, Tryz.ntmps71
  go_wp2_with fail
  (with_reducible refine (M1.out _).mono ?_)
  rintro e w1 ⟨rfl, hb⟩
  have BW1 : Below w.heap.size w w1 := btr (by repeat (first | (with_reducible exact Below.refl _ _) | (with_reducible refine bal ?_ _) | (with_reducible refine Below.drew ?_) | (with_reducible refine bdn ?_ _))) hb
  have X1 : Row5 w1 w.heap.size (.bool g) (.int .u64 x0) (.int .u64 x1) (.int .u64 x2) (.int .u64 x3) := Row5.keep hb (by repeat (first | (with_reducible exact Row5.new _ _ _ _ _ _) | ((with_reducible refine Row5.new' _ ?_ _ _ _ _ _); (simp; done)) | (with_reducible refine Row5.alloc ?_ _) | (with_reducible refine Row5.drew ?_)))
  have R1 : Row5 w1 (w.heap.size + 1) (.bool false) (.int .u64 0) (.int .u64 0) (.int .u64 0) (.int .u64 0) := Row5.keep hb (by repeat (first | (with_reducible exact Row5.new _ _ _ _ _ _) | ((with_reducible refine Row5.new' _ ?_ _ _ _ _ _); (simp; done)) | (with_reducible refine Row5.alloc ?_ _) | (with_reducible refine Row5.drew ?_)))
  clear hb
  obtain ⟨Xc0, Xc1, Xc2, Xc3, Xc4⟩ := X1.parts
  obtain ⟨Xf0, Xf1, Xf2, Xf3, Xf4⟩ := X1.free
  obtain ⟨Rc0, Rc1, Rc2, Rc3, Rc4⟩ := R1.parts
  obtain ⟨Rf0, Rf1, Rf2, Rf3, Rf4⟩ := R1.free
  go_wp2
  exact bodyPost_ret (v := .tuple #[Z5, .bool false]) (by simp [results, Tryz.results71, go_sem, Rc0, Rc1, Rc2, Rc3, Rc4]) rfl ⟨rfl, bsc5 BW1 (by omega) _ _ _ _ _⟩

set_option maxHeartbeats 1000000 in
set_option maxRecDepth 100000 in
theorem down_exact_yes (w : World) (g : Bool) (x0 x1 x2 x3 : Int) (h : Bool) (s0 s1 s2 s3 : Int) (b : Bool)
    (m1 : ∀ W, Calls Tryz.prog 26 #[.agg #[.bool g, .int .u64 x0, .int .u64 x1, .int .u64 x2, .int .u64 x3]] W fun e w' => e = .returned (.bool true) ∧ Below W.heap.size W w')
    (k1 : ∀ W, Below w.heap.size w W → Calls Tryz.prog 39 #[.agg #[.bool (!g && !eq4 x0 x1 x2 x3 0 0 0 0), .int .u64 x0, .int .u64 x1, .int .u64 x2, .int .u64 x3]] W fun e w' => e = .returned (.tuple #[.agg #[.bool h, .int .u64 s0, .int .u64 s1, .int .u64 s2, .int .u64 s3], .bool b]) ∧ Below W.heap.size W w') :
    Calls Tryz.prog 71 #[.func (.func 39) #[] #[], .agg #[.bool g, .int .u64 x0, .int .u64 x1, .int .u64 x2, .int .u64 x3]] w fun e w' => e = .returned (.tuple #[.agg #[.bool (!h && !eq4 s0 s1 s2 s3 0 0 0 0), .int .u64 s0, .int .u64 s1, .int .u64 s2, .int .u64 s3], .bool b]) ∧ Below w.heap.size w w' := by
  have M1 := Lib.hid m1; clear m1
  have K1 := Lib.hid k1; clear k1
  go_enter Tryz.func71, Tryz.ntmps71
  go_wp2_with fail
  (with_reducible refine (M1.out _).mono ?_)
  rintro e w1 ⟨rfl, hb⟩
  have BW1 : Below w.heap.size w w1 := btr (by repeat (first | (with_reducible exact Below.refl _ _) | (with_reducible refine bal ?_ _) | (with_reducible refine Below.drew ?_) | (with_reducible refine bdn ?_ _))) hb
  have X1 : Row5 w1 w.heap.size (.bool g) (.int .u64 x0) (.int .u64 x1) (.int .u64 x2) (.int .u64 x3) := Row5.keep hb (by repeat (first | (with_reducible exact Row5.new _ _ _ _ _ _) | ((with_reducible refine Row5.new' _ ?_ _ _ _ _ _); (simp; done)) | (with_reducible refine Row5.alloc ?_ _) | (with_reducible refine Row5.drew ?_)))
  have R1 : Row5 w1 (w.heap.size + 1) (.bool false) (.int .u64 0) (.int .u64 0) (.int .u64 0) (.int .u64 0) := Row5.keep hb (by repeat (first | (with_reducible exact Row5.new _ _ _ _ _ _) | ((with_reducible refine Row5.new' _ ?_ _ _ _ _ _); (simp; done)) | (with_reducible refine Row5.alloc ?_ _) | (with_reducible refine Row5.drew ?_)))
  clear hb
  obtain ⟨Xc0, Xc1, Xc2, Xc3, Xc4⟩ := X1.parts
  obtain ⟨Xf0, Xf1, Xf2, Xf3, Xf4⟩ := X1.free
  obtain ⟨Rc0, Rc1, Rc2, Rc3, Rc4⟩ := R1.parts
  obtain ⟨Rf0, Rf1, Rf2, Rf3, Rf4⟩ := R1.free
  go_wp2_with fail
  (with_reducible refine (signed_any _ _ _ _ _ _).mono ?_)
  rintro e w2 ⟨rfl, hb⟩
  have BW2 : Below w.heap.size w w2 := btr (by repeat (first | (with_reducible exact BW1) | (with_reducible refine bal ?_ _) | (with_reducible refine Below.drew ?_) | (with_reducible refine bdn ?_ _))) hb
  have X2 : Row5 w2 w.heap.size (.bool g) (.int .u64 x0) (.int .u64 x1) (.int .u64 x2) (.int .u64 x3) := Row5.keep hb (by repeat (first | (with_reducible exact X1) | (with_reducible refine Row5.alloc ?_ _) | (with_reducible refine Row5.drew ?_)))
  have R2 : Row5 w2 (w.heap.size + 1) (.bool false) (.int .u64 0) (.int .u64 0) (.int .u64 0) (.int .u64 0) := Row5.keep hb (by repeat (first | (with_reducible exact R1) | (with_reducible refine Row5.alloc ?_ _) | (with_reducible refine Row5.drew ?_)))
  clear X1 R1
  clear BW1
  clear hb
  go_wp2_with fail
  refine (K1.out _ (by repeat (first | (with_reducible exact BW2) | (with_reducible refine bal ?_ _) | (with_reducible refine Below.drew ?_) | (with_reducible refine bdn ?_ _)))).mono ?_
  rintro e w3 ⟨rfl, hb⟩
  have BW3 : Below w.heap.size w w3 := btr (by repeat (first | (with_reducible exact BW2) | (with_reducible refine bal ?_ _) | (with_reducible refine Below.drew ?_) | (with_reducible refine bdn ?_ _))) hb
  have X3 : Row5 w3 w.heap.size (.bool g) (.int .u64 x0) (.int .u64 x1) (.int .u64 x2) (.int .u64 x3) := Row5.keep hb (by repeat (first | (with_reducible exact X2) | (with_reducible refine Row5.alloc ?_ _) | (with_reducible refine Row5.drew ?_)))
  have R3 : Row5 w3 (w.heap.size + 1) (.bool false) (.int .u64 0) (.int .u64 0) (.int .u64 0) (.int .u64 0) := Row5.keep hb (by repeat (first | (with_reducible exact R2) | (with_reducible refine Row5.alloc ?_ _) | (with_reducible refine Row5.drew ?_)))
  clear X2 R2
  clear BW2
  clear hb
  go_upto_region 4 with (fail)
  skip
  go_name_world w4 hw4
  have BW4 : Below w.heap.size w w4 := by rw [← hw4]; repeat (first | (with_reducible exact BW3) | (with_reducible refine bal ?_ _) | (with_reducible refine Below.drew ?_) | (with_reducible refine bdn ?_ _))
  have X4 : Row5 w4 w.heap.size (.bool g) (.int .u64 x0) (.int .u64 x1) (.int .u64 x2) (.int .u64 x3) := by rw [← hw4]; exact (by repeat (first | (with_reducible exact X3) | (with_reducible refine Row5.alloc ?_ _) | (with_reducible refine Row5.drew ?_)))
  have R4 : Row5 w4 (w.heap.size + 1) (.bool false) (.int .u64 0) (.int .u64 0) (.int .u64 0) (.int .u64 0) := by rw [← hw4]; exact (by repeat (first | (with_reducible exact R3) | (with_reducible refine Row5.alloc ?_ _) | (with_reducible refine Row5.drew ?_)))
  have apU_X := X3.lt
  have apU_R := R3.lt
  have apU_0 := (BW3).size
  have U4 : Row5 w4 w3.heap.size (.bool h) (.int .u64 s0) (.int .u64 s1) (.int .u64 s2) (.int .u64 s3) := by rw [← hw4]; exact (by repeat (first | (with_reducible exact Row5.new _ _ _ _ _ _) | ((with_reducible refine Row5.new' _ ?_ _ _ _ _ _); (simp; done)) | (with_reducible refine Row5.alloc ?_ _) | (with_reducible refine Row5.drew ?_)))
  clear X3 R3
  clear BW3
  clear hw4
  obtain ⟨Uc0, Uc1, Uc2, Uc3, Uc4⟩ := U4.parts
  obtain ⟨Uf0, Uf1, Uf2, Uf3, Uf4⟩ := U4.free
  go_wp2_with fail
  (with_reducible refine (signed_any _ _ _ _ _ _).mono ?_)
  rintro e w5 ⟨rfl, hb⟩
  have BW5 : Below w.heap.size w w5 := btr (by repeat (first | (with_reducible exact BW4) | (with_reducible refine bal ?_ _) | (with_reducible refine Below.drew ?_) | (with_reducible refine bdn ?_ _))) hb
  have X5 : Row5 w5 w.heap.size (.bool g) (.int .u64 x0) (.int .u64 x1) (.int .u64 x2) (.int .u64 x3) := Row5.keep hb (by repeat (first | (with_reducible exact X4) | (with_reducible refine Row5.alloc ?_ _) | (with_reducible refine Row5.drew ?_)))
  have R5 : Row5 w5 (w.heap.size + 1) (.bool false) (.int .u64 0) (.int .u64 0) (.int .u64 0) (.int .u64 0) := Row5.keep hb (by repeat (first | (with_reducible exact R4) | (with_reducible refine Row5.alloc ?_ _) | (with_reducible refine Row5.drew ?_)))
  have U5 : Row5 w5 w3.heap.size (.bool h) (.int .u64 s0) (.int .u64 s1) (.int .u64 s2) (.int .u64 s3) := Row5.keep hb (by repeat (first | (with_reducible exact U4) | (with_reducible refine Row5.alloc ?_ _) | (with_reducible refine Row5.drew ?_)))
  clear X4 R4 U4
  clear BW4
  clear hb
  obtain ⟨Rc0, Rc1, Rc2, Rc3, Rc4⟩ := R5.parts
  obtain ⟨Rf0, Rf1, Rf2, Rf3, Rf4⟩ := R5.free
  go_wp2
  exact bodyPost_ret (v := .tuple #[.agg #[.bool (!h && !eq4 s0 s1 s2 s3 0 0 0 0), .int .u64 s0, .int .u64 s1, .int .u64 s2, .int .u64 s3], .bool b]) (by simp [results, Tryz.results71, go_sem, Rc0, Rc1, Rc2, Rc3, Rc4]) rfl ⟨rfl, bsc5 BW5 (by omega) _ _ _ _ _⟩

set_option maxHeartbeats 1000000 in
set_option maxRecDepth 100000 in
theorem down_rough_no (w : World) (g : Bool) (x0 x1 x2 x3 : Int)
    (m1 : ∀ W, Calls Tryz.prog 26 #[.agg #[.bool g, .int .u64 x0, .int .u64 x1, .int .u64 x2, .int .u64 x3]] W fun e w' => e = .returned (.bool false) ∧ Below W.heap.size W w') :
    Calls Tryz.prog 71 #[.func (.func 41) #[] #[], .agg #[.bool g, .int .u64 x0, .int .u64 x1, .int .u64 x2, .int .u64 x3]] w fun e w' => e = .returned (.tuple #[Z5, .bool false]) ∧ Below w.heap.size w w' := by
  have M1 := Lib.hid m1; clear m1
  go_enter Tryz.func71, Tryz.ntmps71
  go_wp2_with fail
  (with_reducible refine (M1.out _).mono ?_)
  rintro e w1 ⟨rfl, hb⟩
  have BW1 : Below w.heap.size w w1 := btr (by repeat (first | (with_reducible exact Below.refl _ _) | (with_reducible refine bal ?_ _) | (with_reducible refine Below.drew ?_) | (with_reducible refine bdn ?_ _))) hb
  have X1 : Row5 w1 w.heap.size (.bool g) (.int .u64 x0) (.int .u64 x1) (.int .u64 x2) (.int .u64 x3) := Row5.keep hb (by repeat (first | (with_reducible exact Row5.new _ _ _ _ _ _) | ((with_reducible refine Row5.new' _ ?_ _ _ _ _ _); (simp; done)) | (with_reducible refine Row5.alloc ?_ _) | (with_reducible refine Row5.drew ?_)))
  have R1 : Row5 w1 (w.heap.size + 1) (.bool false) (.int .u64 0) (.int .u64 0) (.int .u64 0) (.int .u64 0) := Row5.keep hb (by repeat (first | (with_reducible exact Row5.new _ _ _ _ _ _) | ((with_reducible refine Row5.new' _ ?_ _ _ _ _ _); (simp; done)) | (with_reducible refine Row5.alloc ?_ _) | (with_reducible refine Row5.drew ?_)))
  clear hb
  obtain ⟨Xc0, Xc1, Xc2, Xc3, Xc4⟩ := X1.parts
  obtain ⟨Xf0, Xf1, Xf2, Xf3, Xf4⟩ := X1.free
  obtain ⟨Rc0, Rc1, Rc2, Rc3, Rc4⟩ := R1.parts
  obtain ⟨Rf0, Rf1, Rf2, Rf3, Rf4⟩ := R1.free
  go_wp2
  exact bodyPost_ret (v := .tuple #[Z5, .bool false]) (by simp [results, Tryz.results71, go_sem, Rc0, Rc1, Rc2, Rc3, Rc4]) rfl ⟨rfl, bsc5 BW1 (by omega) _ _ _ _ _⟩

set_option maxHeartbeats 1000000 in
set_option maxRecDepth 100000 in
theorem down_rough_yes (w : World) (g : Bool) (x0 x1 x2 x3 : Int) (h : Bool) (s0 s1 s2 s3 : Int) (b : Bool)
    (m1 : ∀ W, Calls Tryz.prog 26 #[.agg #[.bool g, .int .u64 x0, .int .u64 x1, .int .u64 x2, .int .u64 x3]] W fun e w' => e = .returned (.bool true) ∧ Below W.heap.size W w')
    (k1 : ∀ W, Below w.heap.size w W → Calls Tryz.prog 41 #[.agg #[.bool (!g && !eq4 x0 x1 x2 x3 0 0 0 0), .int .u64 x0, .int .u64 x1, .int .u64 x2, .int .u64 x3]] W fun e w' => e = .returned (.tuple #[.agg #[.bool h, .int .u64 s0, .int .u64 s1, .int .u64 s2, .int .u64 s3], .bool b]) ∧ Below W.heap.size W w') :
    Calls Tryz.prog 71 #[.func (.func 41) #[] #[], .agg #[.bool g, .int .u64 x0, .int .u64 x1, .int .u64 x2, .int .u64 x3]] w fun e w' => e = .returned (.tuple #[.agg #[.bool (!h && !eq4 s0 s1 s2 s3 0 0 0 0), .int .u64 s0, .int .u64 s1, .int .u64 s2, .int .u64 s3], .bool b]) ∧ Below w.heap.size w w' := by
  have M1 := Lib.hid m1; clear m1
  have K1 := Lib.hid k1; clear k1
  go_enter Tryz.func71, Tryz.ntmps71
  go_wp2_with fail
  (with_reducible refine (M1.out _).mono ?_)
  rintro e w1 ⟨rfl, hb⟩
  have BW1 : Below w.heap.size w w1 := btr (by repeat (first | (with_reducible exact Below.refl _ _) | (with_reducible refine bal ?_ _) | (with_reducible refine Below.drew ?_) | (with_reducible refine bdn ?_ _))) hb
  have X1 : Row5 w1 w.heap.size (.bool g) (.int .u64 x0) (.int .u64 x1) (.int .u64 x2) (.int .u64 x3) := Row5.keep hb (by repeat (first | (with_reducible exact Row5.new _ _ _ _ _ _) | ((with_reducible refine Row5.new' _ ?_ _ _ _ _ _); (simp; done)) | (with_reducible refine Row5.alloc ?_ _) | (with_reducible refine Row5.drew ?_)))
  have R1 : Row5 w1 (w.heap.size + 1) (.bool false) (.int .u64 0) (.int .u64 0) (.int .u64 0) (.int .u64 0) := Row5.keep hb (by repeat (first | (with_reducible exact Row5.new _ _ _ _ _ _) | ((with_reducible refine Row5.new' _ ?_ _ _ _ _ _); (simp; done)) | (with_reducible refine Row5.alloc ?_ _) | (with_reducible refine Row5.drew ?_)))
  clear hb
  obtain ⟨Xc0, Xc1, Xc2, Xc3, Xc4⟩ := X1.parts
  obtain ⟨Xf0, Xf1, Xf2, Xf3, Xf4⟩ := X1.free
  obtain ⟨Rc0, Rc1, Rc2, Rc3, Rc4⟩ := R1.parts
  obtain ⟨Rf0, Rf1, Rf2, Rf3, Rf4⟩ := R1.free
  go_wp2_with fail
  (with_reducible refine (signed_any _ _ _ _ _ _).mono ?_)
  rintro e w2 ⟨rfl, hb⟩
  have BW2 : Below w.heap.size w w2 := btr (by repeat (first | (with_reducible exact BW1) | (with_reducible refine bal ?_ _) | (with_reducible refine Below.drew ?_) | (with_reducible refine bdn ?_ _))) hb
  have X2 : Row5 w2 w.heap.size (.bool g) (.int .u64 x0) (.int .u64 x1) (.int .u64 x2) (.int .u64 x3) := Row5.keep hb (by repeat (first | (with_reducible exact X1) | (with_reducible refine Row5.alloc ?_ _) | (with_reducible refine Row5.drew ?_)))
  have R2 : Row5 w2 (w.heap.size + 1) (.bool false) (.int .u64 0) (.int .u64 0) (.int .u64 0) (.int .u64 0) := Row5.keep hb (by repeat (first | (with_reducible exact R1) | (with_reducible refine Row5.alloc ?_ _) | (with_reducible refine Row5.drew ?_)))
  clear X1 R1
  clear BW1
  clear hb
  go_wp2_with fail
  refine (K1.out _ (by repeat (first | (with_reducible exact BW2) | (with_reducible refine bal ?_ _) | (with_reducible refine Below.drew ?_) | (with_reducible refine bdn ?_ _)))).mono ?_
  rintro e w3 ⟨rfl, hb⟩
  have BW3 : Below w.heap.size w w3 := btr (by repeat (first | (with_reducible exact BW2) | (with_reducible refine bal ?_ _) | (with_reducible refine Below.drew ?_) | (with_reducible refine bdn ?_ _))) hb
  have X3 : Row5 w3 w.heap.size (.bool g) (.int .u64 x0) (.int .u64 x1) (.int .u64 x2) (.int .u64 x3) := Row5.keep hb (by repeat (first | (with_reducible exact X2) | (with_reducible refine Row5.alloc ?_ _) | (with_reducible refine Row5.drew ?_)))
  have R3 : Row5 w3 (w.heap.size + 1) (.bool false) (.int .u64 0) (.int .u64 0) (.int .u64 0) (.int .u64 0) := Row5.keep hb (by repeat (first | (with_reducible exact R2) | (with_reducible refine Row5.alloc ?_ _) | (with_reducible refine Row5.drew ?_)))
  clear X2 R2
  clear BW2
  clear hb
  go_upto_region 4 with (fail)
  skip
  go_name_world w4 hw4
  have BW4 : Below w.heap.size w w4 := by rw [← hw4]; repeat (first | (with_reducible exact BW3) | (with_reducible refine bal ?_ _) | (with_reducible refine Below.drew ?_) | (with_reducible refine bdn ?_ _))
  have X4 : Row5 w4 w.heap.size (.bool g) (.int .u64 x0) (.int .u64 x1) (.int .u64 x2) (.int .u64 x3) := by rw [← hw4]; exact (by repeat (first | (with_reducible exact X3) | (with_reducible refine Row5.alloc ?_ _) | (with_reducible refine Row5.drew ?_)))
  have R4 : Row5 w4 (w.heap.size + 1) (.bool false) (.int .u64 0) (.int .u64 0) (.int .u64 0) (.int .u64 0) := by rw [← hw4]; exact (by repeat (first | (with_reducible exact R3) | (with_reducible refine Row5.alloc ?_ _) | (with_reducible refine Row5.drew ?_)))
  have apU_X := X3.lt
  have apU_R := R3.lt
  have apU_0 := (BW3).size
  have U4 : Row5 w4 w3.heap.size (.bool h) (.int .u64 s0) (.int .u64 s1) (.int .u64 s2) (.int .u64 s3) := by rw [← hw4]; exact (by repeat (first | (with_reducible exact Row5.new _ _ _ _ _ _) | ((with_reducible refine Row5.new' _ ?_ _ _ _ _ _); (simp; done)) | (with_reducible refine Row5.alloc ?_ _) | (with_reducible refine Row5.drew ?_)))
  clear X3 R3
  clear BW3
  clear hw4
  obtain ⟨Uc0, Uc1, Uc2, Uc3, Uc4⟩ := U4.parts
  obtain ⟨Uf0, Uf1, Uf2, Uf3, Uf4⟩ := U4.free
  go_wp2_with fail
  (with_reducible refine (signed_any _ _ _ _ _ _).mono ?_)
  rintro e w5 ⟨rfl, hb⟩
  have BW5 : Below w.heap.size w w5 := btr (by repeat (first | (with_reducible exact BW4) | (with_reducible refine bal ?_ _) | (with_reducible refine Below.drew ?_) | (with_reducible refine bdn ?_ _))) hb
  have X5 : Row5 w5 w.heap.size (.bool g) (.int .u64 x0) (.int .u64 x1) (.int .u64 x2) (.int .u64 x3) := Row5.keep hb (by repeat (first | (with_reducible exact X4) | (with_reducible refine Row5.alloc ?_ _) | (with_reducible refine Row5.drew ?_)))
  have R5 : Row5 w5 (w.heap.size + 1) (.bool false) (.int .u64 0) (.int .u64 0) (.int .u64 0) (.int .u64 0) := Row5.keep hb (by repeat (first | (with_reducible exact R4) | (with_reducible refine Row5.alloc ?_ _) | (with_reducible refine Row5.drew ?_)))
  have U5 : Row5 w5 w3.heap.size (.bool h) (.int .u64 s0) (.int .u64 s1) (.int .u64 s2) (.int .u64 s3) := Row5.keep hb (by repeat (first | (with_reducible exact U4) | (with_reducible refine Row5.alloc ?_ _) | (with_reducible refine Row5.drew ?_)))
  clear X4 R4 U4
  clear BW4
  clear hb
  obtain ⟨Rc0, Rc1, Rc2, Rc3, Rc4⟩ := R5.parts
  obtain ⟨Rf0, Rf1, Rf2, Rf3, Rf4⟩ := R5.free
  go_wp2
  exact bodyPost_ret (v := .tuple #[.agg #[.bool (!h && !eq4 s0 s1 s2 s3 0 0 0 0), .int .u64 s0, .int .u64 s1, .int .u64 s2, .int .u64 s3], .bool b]) (by simp [results, Tryz.results71, go_sem, Rc0, Rc1, Rc2, Rc3, Rc4]) rfl ⟨rfl, bsc5 BW5 (by omega) _ _ _ _ _⟩

end Go.Proofs.YtjlgiejggcbgbaaGreatDoor
