/-
  entrepotlaw1.NatBits: the walk, case B. The tables math/bits.deBruijn64tab, internal/strconv.uint64pow10 read as their initialisers lay them.
-/
import Derived.Test.YtngmdncidieclaaDoorRefNat
import Derived.Test.YtngmdncidieclaaDoorRefShr
import Derived.Test.YtngmdncidieclaaDoorNatShr
import Derived.Test.YtngmdncidieclaaDoorNatTrail
import Derived.Test.YtngmdncidieclaaDoorNatTold
namespace Go.Proofs.YtngmdncidieclaaDoor
open Go.RowKit Go.Shelf Go.Sort
attribute [local go_sem ↓] eql_nat neq_nat

set_option maxHeartbeats 4000000 in
set_option maxRecDepth 100000 in
theorem nbits_Bs (x S F y2 m t : Nat) (i k : Int) (far b1 b2 : Bool) (hx : x < 2 ^ 256) (hrem : Int.tmod k 300 = i) (hmax : max i 0 = (m : Int)) (hneg : IntKind.i64.wrap (-(m : Int)) = -(m : Int)) (w : World) (hT : Tabs w)
    (hi : 0 ≤ i) (_hi1 : i < 300) (z1 : (lb 1 x == 0) = true) (z2 : (lb 2 x == 0) = true) (z3 : (lb 3 x == 0) = true) (q2 : eq4 (lb 0 y2) (lb 1 y2) (lb 2 y2) (lb 3 y2) (lb 0 y2) (lb 1 y2) (lb 2 y2) (lb 3 y2) = true) (q3 : eq4 (lb 0 x) 0 0 0 (lb 0 x) 0 0 0 = true)
    
    (hkk : (k < 0 ∧ far = false) ∨ (0 ≤ k ∧ k ≤ 256) ∨ (256 < k ∧ far = true))
    
    (kshi : ∀ W, Calls Tryd.prog 11 #[N4 x, .int .i64 i] W fun e w' => e = .returned (.tuple #[N4 S, .bool true]) ∧ Below W.heap.size W w')
    (kshk : ∀ W, Calls Tryd.prog 11 #[N4 x, .int .i64 k] W fun e w' => e = .returned (.tuple #[N4 F, .bool far]) ∧ Below W.heap.size W w')
    (klen : ∀ s' W, DR W s' x → Calls Tryd.prog 12 #[s'] W fun e w' => e = .returned (.int .i64 0) ∧ Below W.heap.size W w')
    
    
    (ksm : ∀ s' W, DR W s' x → Calls Tryd.prog 13 #[s', .int .i64 (-(m : Int))] W fun e w' => ∃ s2, e = .returned s2 ∧ DR w' s2 y2 ∧ Below W.heap.size W w')
    (kn2 : ∀ s' W, DR W s' y2 → Calls Tryd.prog 14 #[s'] W fun e w' => e = .returned (.tuple #[N4 y2, .bool true]) ∧ Below W.heap.size W w')
    (klow : ∀ W, Calls Tryd.prog 15 #[N4 x] W fun e w' => e = .returned (.tuple #[.int .u64 (lb 0 x), .bool true]) ∧ Below W.heap.size W w')
    (kshr : ∀ W, Calls Tryd.prog 17 #[N4 x, .int .i64 i] W fun e w' => e = .returned (N4 y2) ∧ Below W.heap.size W w')
    (knl : ∀ W, Calls Tryd.prog 18 #[N4 x] W fun e w' => e = .returned (.int .i64 0) ∧ Below W.heap.size W w')
    (knt : ∀ W, Tb W → Calls Tryd.prog 19 #[N4 x] W fun e w' => e = .returned (.int .i64 (t : Int)) ∧ Below W.heap.size W w')
    (ktr : ∀ s' W, DR W s' x → Calls Tryd.prog 20 #[s'] W fun e w' => e = .returned (.int .i64 (t : Int)) ∧ Below W.heap.size W w')
    (kb1 : ∀ W, Calls Tryd.prog 21 #[N4 x, .int .i64 i] W fun e w' => e = .returned (.bool b1) ∧ Below W.heap.size W w')
    (kd1 : ∀ s' W, DR W s' x → Calls Tryd.prog 22 #[s', .int .i64 i] W fun e w' => e = .returned (.bool b1) ∧ Below W.heap.size W w')
    (kb2 : ∀ W, Calls Tryd.prog 21 #[N4 x, .int .i64 k] W fun e w' => e = .returned (.bool b2) ∧ Below W.heap.size W w')
    (kd2 : ∀ s' W, DR W s' x → Calls Tryd.prog 22 #[s', .int .i64 k] W fun e w' => e = .returned (.bool b2) ∧ Below W.heap.size W w') :
    Calls Tryd.prog 3 #[N4 x, .int .i64 k] w fun e w' => e = .returned (.bool true) ∧ Below w.heap.size w w' := by
  have KSHI_ := Lib.hid kshi; have KSHK_ := Lib.hid kshk; have KLEN_ := Lib.hid klen; have KSM_ := Lib.hid ksm; have KN2_ := Lib.hid kn2; have KLOW_ := Lib.hid klow; have KSHR_ := Lib.hid kshr; have KNL_ := Lib.hid knl; have KNT_ := Lib.hid knt; have KTR_ := Lib.hid ktr; have KB1_ := Lib.hid kb1; have KD1_ := Lib.hid kd1; have KB2_ := Lib.hid kb2; have KD2_ := Lib.hid kd2; have Q2_ := Lib.hid q2; have Q3_ := Lib.hid q3; have HX_ := Lib.hid hx; have HT_ := Lib.hid hT; have HKK_ := Lib.hid hkk
  clear kshi kshk klen ksm kn2 klow kshr knl knt ktr kb1 kd1 kb2 kd2 q2 q3 hx hT hkk
  have hb1 : (b1 == b1) = true := beq_self_eq_true b1; have hb2 : (b2 == b2) = true := beq_self_eq_true b2
  go_enter Tryd.func3, Tryd.ntmps3
  go_wp2_with fail
  refine (rof x HX_.out _).mono ?_
  rintro e w1 ⟨s1, rfl, hr, hb⟩
  have hbX : Below w.heap.size w w1 := btr (by repeat (first | (with_reducible exact Below.refl _ _) | (with_reducible refine bal ?_ _) | (with_reducible refine Below.drew ?_) | (with_reducible refine bdn ?_ _))) hb
  clear hbX
  have DX1 : DR w1 s1 x := hr
  clear hr
  have BW1 : Below w.heap.size w w1 := btr (by repeat (first | (with_reducible exact Below.refl _ _) | (with_reducible refine bal ?_ _) | (with_reducible refine Below.drew ?_) | (with_reducible refine bdn ?_ _))) hb
  have A1 : Row4 w1 w.heap.size (.int .u64 (lb 0 x)) (.int .u64 (lb 1 x)) (.int .u64 (lb 2 x)) (.int .u64 (lb 3 x)) := Row4.keep hb (by repeat (first | (with_reducible exact Row4.new _ _ _ _ _) | ((with_reducible refine Row4.new' _ ?_ _ _ _ _); (simp; done)) | (with_reducible refine Row4.alloc ?_ _) | (with_reducible refine Row4.drew ?_)))
  clear hb
  obtain ⟨Ac0, Ac1, Ac2, Ac3⟩ := A1.four
  obtain ⟨Af0, Af1, Af2, Af3⟩ := A1.free4
  go_wp2_with fail
  refine (KSHI_.out _).mono ?_
  rintro e w2 ⟨rfl, hb⟩
  have hbX : Below w1.heap.size w1 w2 := btr (by repeat (first | (with_reducible exact Below.refl _ _) | (with_reducible refine bal ?_ _) | (with_reducible refine Below.drew ?_) | (with_reducible refine bdn ?_ _))) hb
  have DX2 : DR w2 s1 x := DR.keep hbX DX1
  clear DX1
  clear hbX
  have BW2 : Below w.heap.size w w2 := btr (by repeat (first | (with_reducible exact BW1) | (with_reducible refine bal ?_ _) | (with_reducible refine Below.drew ?_) | (with_reducible refine bdn ?_ _))) hb
  have A2 : Row4 w2 w.heap.size (.int .u64 (lb 0 x)) (.int .u64 (lb 1 x)) (.int .u64 (lb 2 x)) (.int .u64 (lb 3 x)) := Row4.keep hb (by repeat (first | (with_reducible exact A1) | (with_reducible refine Row4.alloc ?_ _) | (with_reducible refine Row4.drew ?_)))
  clear A1
  clear BW1
  clear hb
  go_wp2_with fail
  refine (KLEN_.out _ _ (DR.keep (by repeat (first | (with_reducible exact Below.refl _ _) | (with_reducible refine bal ?_ _) | (with_reducible refine Below.drew ?_) | (with_reducible refine bdn ?_ _))) DX2)).mono ?_
  rintro e w3 ⟨rfl, hb⟩
  have hbX : Below w2.heap.size w2 w3 := btr (by repeat (first | (with_reducible exact Below.refl _ _) | (with_reducible refine bal ?_ _) | (with_reducible refine Below.drew ?_) | (with_reducible refine bdn ?_ _))) hb
  have DX3 : DR w3 s1 x := DR.keep hbX DX2
  clear DX2
  clear hbX
  have BW3 : Below w.heap.size w w3 := btr (by repeat (first | (with_reducible exact BW2) | (with_reducible refine bal ?_ _) | (with_reducible refine Below.drew ?_) | (with_reducible refine bdn ?_ _))) hb
  have A3 : Row4 w3 w.heap.size (.int .u64 (lb 0 x)) (.int .u64 (lb 1 x)) (.int .u64 (lb 2 x)) (.int .u64 (lb 3 x)) := Row4.keep hb (by repeat (first | (with_reducible exact A2) | (with_reducible refine Row4.alloc ?_ _) | (with_reducible refine Row4.drew ?_)))
  have apS_A := A2.lt
  have apS_0 := (BW2).size
  have S3 : Row4 w3 w2.heap.size (.int .u64 (lb 0 S)) (.int .u64 (lb 1 S)) (.int .u64 (lb 2 S)) (.int .u64 (lb 3 S)) := Row4.keep hb (by repeat (first | (with_reducible exact Row4.new _ _ _ _ _) | ((with_reducible refine Row4.new' _ ?_ _ _ _ _); (simp; done)) | (with_reducible refine Row4.alloc ?_ _) | (with_reducible refine Row4.drew ?_)))
  clear A2
  clear BW2
  clear hb
  go_wp2_with fail
  refine (KLEN_.out _ _ (DR.keep (by repeat (first | (with_reducible exact Below.refl _ _) | (with_reducible refine bal ?_ _) | (with_reducible refine Below.drew ?_) | (with_reducible refine bdn ?_ _))) DX3)).mono ?_
  rintro e w4 ⟨rfl, hb⟩
  have hbX : Below w3.heap.size w3 w4 := btr (by repeat (first | (with_reducible exact Below.refl _ _) | (with_reducible refine bal ?_ _) | (with_reducible refine Below.drew ?_) | (with_reducible refine bdn ?_ _))) hb
  have DX4 : DR w4 s1 x := DR.keep hbX DX3
  clear DX3
  clear hbX
  have BW4 : Below w.heap.size w w4 := btr (by repeat (first | (with_reducible exact BW3) | (with_reducible refine bal ?_ _) | (with_reducible refine Below.drew ?_) | (with_reducible refine bdn ?_ _))) hb
  have A4 : Row4 w4 w.heap.size (.int .u64 (lb 0 x)) (.int .u64 (lb 1 x)) (.int .u64 (lb 2 x)) (.int .u64 (lb 3 x)) := Row4.keep hb (by repeat (first | (with_reducible exact A3) | (with_reducible refine Row4.alloc ?_ _) | (with_reducible refine Row4.drew ?_)))
  have S4 : Row4 w4 w2.heap.size (.int .u64 (lb 0 S)) (.int .u64 (lb 1 S)) (.int .u64 (lb 2 S)) (.int .u64 (lb 3 S)) := Row4.keep hb (by repeat (first | (with_reducible exact S3) | (with_reducible refine Row4.alloc ?_ _) | (with_reducible refine Row4.drew ?_)))
  clear A3 S3
  clear BW3
  clear hb
  go_wp2_with fail
  refine (KSM_.out _ _ (DR.keep (by repeat (first | (with_reducible exact Below.refl _ _) | (with_reducible refine bal ?_ _) | (with_reducible refine Below.drew ?_) | (with_reducible refine bdn ?_ _))) DX4)).mono ?_
  rintro e w5 ⟨s3, rfl, hr, hb⟩
  have hbX : Below w4.heap.size w4 w5 := btr (by repeat (first | (with_reducible exact Below.refl _ _) | (with_reducible refine bal ?_ _) | (with_reducible refine Below.drew ?_) | (with_reducible refine bdn ?_ _))) hb
  have DX5 : DR w5 s1 x := DR.keep hbX DX4
  clear DX4
  clear hbX
  have DZ5 : DR w5 s3 y2 := hr
  clear hr
  have BW5 : Below w.heap.size w w5 := btr (by repeat (first | (with_reducible exact BW4) | (with_reducible refine bal ?_ _) | (with_reducible refine Below.drew ?_) | (with_reducible refine bdn ?_ _))) hb
  have A5 : Row4 w5 w.heap.size (.int .u64 (lb 0 x)) (.int .u64 (lb 1 x)) (.int .u64 (lb 2 x)) (.int .u64 (lb 3 x)) := Row4.keep hb (by repeat (first | (with_reducible exact A4) | (with_reducible refine Row4.alloc ?_ _) | (with_reducible refine Row4.drew ?_)))
  have S5 : Row4 w5 w2.heap.size (.int .u64 (lb 0 S)) (.int .u64 (lb 1 S)) (.int .u64 (lb 2 S)) (.int .u64 (lb 3 S)) := Row4.keep hb (by repeat (first | (with_reducible exact S4) | (with_reducible refine Row4.alloc ?_ _) | (with_reducible refine Row4.drew ?_)))
  clear A4 S4
  clear BW4
  clear hb
  go_wp2_with fail
  refine (KN2_.out _ _ (DR.keep (by repeat (first | (with_reducible exact Below.refl _ _) | (with_reducible refine bal ?_ _) | (with_reducible refine Below.drew ?_) | (with_reducible refine bdn ?_ _))) DZ5)).mono ?_
  rintro e w6 ⟨rfl, hb⟩
  have hbX : Below w5.heap.size w5 w6 := btr (by repeat (first | (with_reducible exact Below.refl _ _) | (with_reducible refine bal ?_ _) | (with_reducible refine Below.drew ?_) | (with_reducible refine bdn ?_ _))) hb
  have DX6 : DR w6 s1 x := DR.keep hbX DX5
  have DZ6 : DR w6 s3 y2 := DR.keep hbX DZ5
  clear DX5 DZ5
  clear hbX
  have BW6 : Below w.heap.size w w6 := btr (by repeat (first | (with_reducible exact BW5) | (with_reducible refine bal ?_ _) | (with_reducible refine Below.drew ?_) | (with_reducible refine bdn ?_ _))) hb
  have A6 : Row4 w6 w.heap.size (.int .u64 (lb 0 x)) (.int .u64 (lb 1 x)) (.int .u64 (lb 2 x)) (.int .u64 (lb 3 x)) := Row4.keep hb (by repeat (first | (with_reducible exact A5) | (with_reducible refine Row4.alloc ?_ _) | (with_reducible refine Row4.drew ?_)))
  have S6 : Row4 w6 w2.heap.size (.int .u64 (lb 0 S)) (.int .u64 (lb 1 S)) (.int .u64 (lb 2 S)) (.int .u64 (lb 3 S)) := Row4.keep hb (by repeat (first | (with_reducible exact S5) | (with_reducible refine Row4.alloc ?_ _) | (with_reducible refine Row4.drew ?_)))
  clear A5 S5
  clear BW5
  clear hb
  go_upto_region 12 with (fail)
  go_name_world w7 hw7
  have BW7 : Below w.heap.size w w7 := by rw [← hw7]; repeat (first | (with_reducible exact BW6) | (with_reducible refine bal ?_ _) | (with_reducible refine Below.drew ?_) | (with_reducible refine bdn ?_ _))
  have hbX : Below w6.heap.size w6 w7 := by rw [← hw7]; repeat (first | (with_reducible exact Below.refl _ _) | (with_reducible refine bal ?_ _) | (with_reducible refine Below.drew ?_) | (with_reducible refine bdn ?_ _))
  have DX7 : DR w7 s1 x := DR.keep hbX DX6
  have DZ7 : DR w7 s3 y2 := DR.keep hbX DZ6
  clear hbX DX6 DZ6
  have A7 : Row4 w7 w.heap.size (.int .u64 (lb 0 x)) (.int .u64 (lb 1 x)) (.int .u64 (lb 2 x)) (.int .u64 (lb 3 x)) := by rw [← hw7]; exact (by repeat (first | (with_reducible exact A6) | (with_reducible refine Row4.alloc ?_ _) | (with_reducible refine Row4.drew ?_)))
  have S7 : Row4 w7 w2.heap.size (.int .u64 (lb 0 S)) (.int .u64 (lb 1 S)) (.int .u64 (lb 2 S)) (.int .u64 (lb 3 S)) := by rw [← hw7]; exact (by repeat (first | (with_reducible exact S6) | (with_reducible refine Row4.alloc ?_ _) | (with_reducible refine Row4.drew ?_)))
  have apE_A := A6.lt
  have apE_S := S6.lt
  have apE_0 := (BW6).size
  have E7 : Row4 w7 w6.heap.size (.int .u64 (lb 0 y2)) (.int .u64 (lb 1 y2)) (.int .u64 (lb 2 y2)) (.int .u64 (lb 3 y2)) := by rw [← hw7]; exact (by repeat (first | (with_reducible exact Row4.new _ _ _ _ _) | ((with_reducible refine Row4.new' _ ?_ _ _ _ _); (simp; done)) | (with_reducible refine Row4.alloc ?_ _) | (with_reducible refine Row4.drew ?_)))
  clear A6 S6
  clear BW6
  clear hw7
  obtain ⟨Ac0, Ac1, Ac2, Ac3⟩ := A7.four
  obtain ⟨Af0, Af1, Af2, Af3⟩ := A7.free4
  go_wp2_with fail
  refine (KSHK_.out _).mono ?_
  rintro e w8 ⟨rfl, hb⟩
  have hbX : Below w7.heap.size w7 w8 := btr (by repeat (first | (with_reducible exact Below.refl _ _) | (with_reducible refine bal ?_ _) | (with_reducible refine Below.drew ?_) | (with_reducible refine bdn ?_ _))) hb
  have DX8 : DR w8 s1 x := DR.keep hbX DX7
  have DZ8 : DR w8 s3 y2 := DR.keep hbX DZ7
  clear DX7 DZ7
  clear hbX
  have BW8 : Below w.heap.size w w8 := btr (by repeat (first | (with_reducible exact BW7) | (with_reducible refine bal ?_ _) | (with_reducible refine Below.drew ?_) | (with_reducible refine bdn ?_ _))) hb
  have A8 : Row4 w8 w.heap.size (.int .u64 (lb 0 x)) (.int .u64 (lb 1 x)) (.int .u64 (lb 2 x)) (.int .u64 (lb 3 x)) := Row4.keep hb (by repeat (first | (with_reducible exact A7) | (with_reducible refine Row4.alloc ?_ _) | (with_reducible refine Row4.drew ?_)))
  have S8 : Row4 w8 w2.heap.size (.int .u64 (lb 0 S)) (.int .u64 (lb 1 S)) (.int .u64 (lb 2 S)) (.int .u64 (lb 3 S)) := Row4.keep hb (by repeat (first | (with_reducible exact S7) | (with_reducible refine Row4.alloc ?_ _) | (with_reducible refine Row4.drew ?_)))
  have E8 : Row4 w8 w6.heap.size (.int .u64 (lb 0 y2)) (.int .u64 (lb 1 y2)) (.int .u64 (lb 2 y2)) (.int .u64 (lb 3 y2)) := Row4.keep hb (by repeat (first | (with_reducible exact E7) | (with_reducible refine Row4.alloc ?_ _) | (with_reducible refine Row4.drew ?_)))
  clear A7 S7 E7
  clear BW7
  clear hb
  go_upto_region 13 with (fail)
  go_name_world w9 hw9
  have BW9 : Below w.heap.size w w9 := by rw [← hw9]; repeat (first | (with_reducible exact BW8) | (with_reducible refine bal ?_ _) | (with_reducible refine Below.drew ?_) | (with_reducible refine bdn ?_ _))
  have hbX : Below w8.heap.size w8 w9 := by rw [← hw9]; repeat (first | (with_reducible exact Below.refl _ _) | (with_reducible refine bal ?_ _) | (with_reducible refine Below.drew ?_) | (with_reducible refine bdn ?_ _))
  have DX9 : DR w9 s1 x := DR.keep hbX DX8
  have DZ9 : DR w9 s3 y2 := DR.keep hbX DZ8
  clear hbX DX8 DZ8
  have A9 : Row4 w9 w.heap.size (.int .u64 (lb 0 x)) (.int .u64 (lb 1 x)) (.int .u64 (lb 2 x)) (.int .u64 (lb 3 x)) := by rw [← hw9]; exact (by repeat (first | (with_reducible exact A8) | (with_reducible refine Row4.alloc ?_ _) | (with_reducible refine Row4.drew ?_)))
  have S9 : Row4 w9 w2.heap.size (.int .u64 (lb 0 S)) (.int .u64 (lb 1 S)) (.int .u64 (lb 2 S)) (.int .u64 (lb 3 S)) := by rw [← hw9]; exact (by repeat (first | (with_reducible exact S8) | (with_reducible refine Row4.alloc ?_ _) | (with_reducible refine Row4.drew ?_)))
  have E9 : Row4 w9 w6.heap.size (.int .u64 (lb 0 y2)) (.int .u64 (lb 1 y2)) (.int .u64 (lb 2 y2)) (.int .u64 (lb 3 y2)) := by rw [← hw9]; exact (by repeat (first | (with_reducible exact E8) | (with_reducible refine Row4.alloc ?_ _) | (with_reducible refine Row4.drew ?_)))
  have apG_A := A8.lt
  have apG_S := S8.lt
  have apG_E := E8.lt
  have apG_0 := (BW8).size
  have G9 : Row4 w9 w8.heap.size (.int .u64 (lb 0 F)) (.int .u64 (lb 1 F)) (.int .u64 (lb 2 F)) (.int .u64 (lb 3 F)) := by rw [← hw9]; exact (by repeat (first | (with_reducible exact Row4.new _ _ _ _ _) | ((with_reducible refine Row4.new' _ ?_ _ _ _ _); (simp; done)) | (with_reducible refine Row4.alloc ?_ _) | (with_reducible refine Row4.drew ?_)))
  clear A8 S8 E8
  clear BW8
  clear hw9
  obtain ⟨Ac0, Ac1, Ac2, Ac3⟩ := A9.four
  obtain ⟨Af0, Af1, Af2, Af3⟩ := A9.free4
  go_wp2_with fail
  refine (KLOW_.out _).mono ?_
  rintro e w10 ⟨rfl, hb⟩
  have hbX : Below w9.heap.size w9 w10 := btr (by repeat (first | (with_reducible exact Below.refl _ _) | (with_reducible refine bal ?_ _) | (with_reducible refine Below.drew ?_) | (with_reducible refine bdn ?_ _))) hb
  have DX10 : DR w10 s1 x := DR.keep hbX DX9
  have DZ10 : DR w10 s3 y2 := DR.keep hbX DZ9
  clear DX9 DZ9
  clear hbX
  have BW10 : Below w.heap.size w w10 := btr (by repeat (first | (with_reducible exact BW9) | (with_reducible refine bal ?_ _) | (with_reducible refine Below.drew ?_) | (with_reducible refine bdn ?_ _))) hb
  have A10 : Row4 w10 w.heap.size (.int .u64 (lb 0 x)) (.int .u64 (lb 1 x)) (.int .u64 (lb 2 x)) (.int .u64 (lb 3 x)) := Row4.keep hb (by repeat (first | (with_reducible exact A9) | (with_reducible refine Row4.alloc ?_ _) | (with_reducible refine Row4.drew ?_)))
  have S10 : Row4 w10 w2.heap.size (.int .u64 (lb 0 S)) (.int .u64 (lb 1 S)) (.int .u64 (lb 2 S)) (.int .u64 (lb 3 S)) := Row4.keep hb (by repeat (first | (with_reducible exact S9) | (with_reducible refine Row4.alloc ?_ _) | (with_reducible refine Row4.drew ?_)))
  have E10 : Row4 w10 w6.heap.size (.int .u64 (lb 0 y2)) (.int .u64 (lb 1 y2)) (.int .u64 (lb 2 y2)) (.int .u64 (lb 3 y2)) := Row4.keep hb (by repeat (first | (with_reducible exact E9) | (with_reducible refine Row4.alloc ?_ _) | (with_reducible refine Row4.drew ?_)))
  have G10 : Row4 w10 w8.heap.size (.int .u64 (lb 0 F)) (.int .u64 (lb 1 F)) (.int .u64 (lb 2 F)) (.int .u64 (lb 3 F)) := Row4.keep hb (by repeat (first | (with_reducible exact G9) | (with_reducible refine Row4.alloc ?_ _) | (with_reducible refine Row4.drew ?_)))
  clear A9 S9 E9 G9
  clear BW9
  clear hb
  obtain ⟨Ac0, Ac1, Ac2, Ac3⟩ := A10.four
  obtain ⟨Af0, Af1, Af2, Af3⟩ := A10.free4
  rcases HKK_.out with ⟨hk, rfl⟩ | ⟨hk, hk2⟩ | ⟨hk, rfl⟩
  · have hd1 : decide (0 ≤ k) = false := decide_eq_false (by omega)
    as_aux_lemma =>
      go_upto_region 15 with (fail)
      go_name_world w11 hw11
      have BW11 : Below w.heap.size w w11 := by rw [← hw11]; repeat (first | (with_reducible exact BW10) | (with_reducible refine bal ?_ _) | (with_reducible refine Below.drew ?_) | (with_reducible refine bdn ?_ _))
      have hbX : Below w10.heap.size w10 w11 := by rw [← hw11]; repeat (first | (with_reducible exact Below.refl _ _) | (with_reducible refine bal ?_ _) | (with_reducible refine Below.drew ?_) | (with_reducible refine bdn ?_ _))
      have DX11 : DR w11 s1 x := DR.keep hbX DX10
      have DZ11 : DR w11 s3 y2 := DR.keep hbX DZ10
      clear hbX DX10 DZ10
      have A11 : Row4 w11 w.heap.size (.int .u64 (lb 0 x)) (.int .u64 (lb 1 x)) (.int .u64 (lb 2 x)) (.int .u64 (lb 3 x)) := by rw [← hw11]; exact (by repeat (first | (with_reducible exact A10) | (with_reducible refine Row4.alloc ?_ _) | (with_reducible refine Row4.drew ?_)))
      have S11 : Row4 w11 w2.heap.size (.int .u64 (lb 0 S)) (.int .u64 (lb 1 S)) (.int .u64 (lb 2 S)) (.int .u64 (lb 3 S)) := by rw [← hw11]; exact (by repeat (first | (with_reducible exact S10) | (with_reducible refine Row4.alloc ?_ _) | (with_reducible refine Row4.drew ?_)))
      have E11 : Row4 w11 w6.heap.size (.int .u64 (lb 0 y2)) (.int .u64 (lb 1 y2)) (.int .u64 (lb 2 y2)) (.int .u64 (lb 3 y2)) := by rw [← hw11]; exact (by repeat (first | (with_reducible exact E10) | (with_reducible refine Row4.alloc ?_ _) | (with_reducible refine Row4.drew ?_)))
      have G11 : Row4 w11 w8.heap.size (.int .u64 (lb 0 F)) (.int .u64 (lb 1 F)) (.int .u64 (lb 2 F)) (.int .u64 (lb 3 F)) := by rw [← hw11]; exact (by repeat (first | (with_reducible exact G10) | (with_reducible refine Row4.alloc ?_ _) | (with_reducible refine Row4.drew ?_)))
      clear A10 S10 E10 G10
      clear BW10
      clear hw11
      have q2 := Q2_.out; have q3 := Q3_.out
      obtain ⟨qA0, qA1, qA2, qA3⟩ := A11.four
      have gA0 := cell_regrown qA0
      have gA1 := cell_regrown qA1
      have gA2 := cell_regrown qA2
      have gA3 := cell_regrown qA3
      clear qA0 qA1 qA2 qA3
      obtain ⟨qE0, qE1, qE2, qE3⟩ := E11.four
      have gE0 := cell_regrown qE0
      have gE1 := cell_regrown qE1
      have gE2 := cell_regrown qE2
      have gE3 := cell_regrown qE3
      clear qE0 qE1 qE2 qE3
      have cq0 := fun (d : Nat) (os : Array Obj) => Calls.regrown_of (w := w11) (d := d) (os := os) (told_true _ (tab_on HT_.out.1 (btr BW11 (below_regrown w11 d os))))
      have cq1 := fun (d : Nat) (os : Array Obj) => Calls.regrown_of (w := w11) (d := d) (os := os) (KSHR_.out _)
      have cq2 := fun (d : Nat) (os : Array Obj) => Calls.regrown_of (w := w11) (d := d) (os := os) (KNL_.out _)
      have cq3 := fun (d : Nat) (os : Array Obj) => Calls.regrown_of (w := w11) (d := d) (os := os) (KLEN_.out _ _ (DR.keep (below_regrown w11 d os) DX11))
      have cq4 := fun (d : Nat) (os : Array Obj) => Calls.regrown_of (w := w11) (d := d) (os := os) (KNT_.out _ (tb_on HT_.out.2 (btr BW11 (below_regrown w11 d os))))
      have cq5 := fun (d : Nat) (os : Array Obj) => Calls.regrown_of (w := w11) (d := d) (os := os) (KTR_.out _ _ (DR.keep (below_regrown w11 d os) DX11))
      have cq6 := fun (d : Nat) (os : Array Obj) => Calls.regrown_of (w := w11) (d := d) (os := os) (KB1_.out _)
      have cq7 := fun (d : Nat) (os : Array Obj) => Calls.regrown_of (w := w11) (d := d) (os := os) (KD1_.out _ _ (DR.keep (below_regrown w11 d os) DX11))
      have cq8 := fun (d : Nat) (os : Array Obj) => Calls.regrown_of (w := w11) (d := d) (os := os) (KB2_.out _)
      have cq9 := fun (d : Nat) (os : Array Obj) => Calls.regrown_of (w := w11) (d := d) (os := os) (KD2_.out _ _ (DR.keep (below_regrown w11 d os) DX11))
      have cq10 := fun (d : Nat) (os : Array Obj) => Calls.regrown_of (w := w11) (d := d) (os := os) ((fun W => of_any (lb 0 x) W) _)
      refine wp_region_quiet_below (by kernel_rfl) (by kernel_rfl) ?_
      simp only [List.append]
      repeat (first | go_big_quiet_step ((first | (with_reducible exact cq0 _ _) | (with_reducible exact cq1 _ _) | (with_reducible exact cq2 _ _) | (with_reducible exact cq3 _ _) | (with_reducible exact cq4 _ _) | (with_reducible exact cq5 _ _) | (with_reducible exact cq6 _ _) | (with_reducible exact cq7 _ _) | (with_reducible exact cq8 _ _) | (with_reducible exact cq9 _ _) | (with_reducible exact cq10 _ _))) | quiet_step (first | (with_reducible exact cq0 _ _) | (with_reducible exact cq1 _ _) | (with_reducible exact cq2 _ _) | (with_reducible exact cq3 _ _) | (with_reducible exact cq4 _ _) | (with_reducible exact cq5 _ _) | (with_reducible exact cq6 _ _) | (with_reducible exact cq7 _ _) | (with_reducible exact cq8 _ _) | (with_reducible exact cq9 _ _) | (with_reducible exact cq10 _ _)))
      refine wpQuiet_nil ?_
      intro _ hw'
      obtain ⟨⟨dq, osq⟩, hw''⟩ := hw'
      subst hw''
      clear gA0 gA1 gA2 gA3 gE0 gE1 gE2 gE3 cq0 cq1 cq2 cq3 cq4 cq5 cq6 cq7 cq8 cq9 cq10
      have hb := below_regrown w11 dq osq
      generalize grow (redrawn w11 dq) osq = w12 at *
      have BW12 : Below w.heap.size w w12 := btr BW11 hb
      have A12 : Row4 w12 w.heap.size (.int .u64 (lb 0 x)) (.int .u64 (lb 1 x)) (.int .u64 (lb 2 x)) (.int .u64 (lb 3 x)) := Row4.keep hb A11
      have S12 : Row4 w12 w2.heap.size (.int .u64 (lb 0 S)) (.int .u64 (lb 1 S)) (.int .u64 (lb 2 S)) (.int .u64 (lb 3 S)) := Row4.keep hb S11
      have E12 : Row4 w12 w6.heap.size (.int .u64 (lb 0 y2)) (.int .u64 (lb 1 y2)) (.int .u64 (lb 2 y2)) (.int .u64 (lb 3 y2)) := Row4.keep hb E11
      have G12 : Row4 w12 w8.heap.size (.int .u64 (lb 0 F)) (.int .u64 (lb 1 F)) (.int .u64 (lb 2 F)) (.int .u64 (lb 3 F)) := Row4.keep hb G11
      clear A11 S11 E11 G11 BW11 hb
      go_wp2
      go_ret
      exact ⟨rfl, BW12⟩
  · have hd1 : decide (0 ≤ k) = true := decide_eq_true (by omega)
    have hd2 : decide (k ≤ 256) = true := decide_eq_true (by omega)
    as_aux_lemma =>
      go_upto_region 15 with (fail)
      go_name_world w11 hw11
      have BW11 : Below w.heap.size w w11 := by rw [← hw11]; repeat (first | (with_reducible exact BW10) | (with_reducible refine bal ?_ _) | (with_reducible refine Below.drew ?_) | (with_reducible refine bdn ?_ _))
      have hbX : Below w10.heap.size w10 w11 := by rw [← hw11]; repeat (first | (with_reducible exact Below.refl _ _) | (with_reducible refine bal ?_ _) | (with_reducible refine Below.drew ?_) | (with_reducible refine bdn ?_ _))
      have DX11 : DR w11 s1 x := DR.keep hbX DX10
      have DZ11 : DR w11 s3 y2 := DR.keep hbX DZ10
      clear hbX DX10 DZ10
      have A11 : Row4 w11 w.heap.size (.int .u64 (lb 0 x)) (.int .u64 (lb 1 x)) (.int .u64 (lb 2 x)) (.int .u64 (lb 3 x)) := by rw [← hw11]; exact (by repeat (first | (with_reducible exact A10) | (with_reducible refine Row4.alloc ?_ _) | (with_reducible refine Row4.drew ?_)))
      have S11 : Row4 w11 w2.heap.size (.int .u64 (lb 0 S)) (.int .u64 (lb 1 S)) (.int .u64 (lb 2 S)) (.int .u64 (lb 3 S)) := by rw [← hw11]; exact (by repeat (first | (with_reducible exact S10) | (with_reducible refine Row4.alloc ?_ _) | (with_reducible refine Row4.drew ?_)))
      have E11 : Row4 w11 w6.heap.size (.int .u64 (lb 0 y2)) (.int .u64 (lb 1 y2)) (.int .u64 (lb 2 y2)) (.int .u64 (lb 3 y2)) := by rw [← hw11]; exact (by repeat (first | (with_reducible exact E10) | (with_reducible refine Row4.alloc ?_ _) | (with_reducible refine Row4.drew ?_)))
      have G11 : Row4 w11 w8.heap.size (.int .u64 (lb 0 F)) (.int .u64 (lb 1 F)) (.int .u64 (lb 2 F)) (.int .u64 (lb 3 F)) := by rw [← hw11]; exact (by repeat (first | (with_reducible exact G10) | (with_reducible refine Row4.alloc ?_ _) | (with_reducible refine Row4.drew ?_)))
      clear A10 S10 E10 G10
      clear BW10
      clear hw11
      have q2 := Q2_.out; have q3 := Q3_.out
      obtain ⟨qA0, qA1, qA2, qA3⟩ := A11.four
      have gA0 := cell_regrown qA0
      have gA1 := cell_regrown qA1
      have gA2 := cell_regrown qA2
      have gA3 := cell_regrown qA3
      clear qA0 qA1 qA2 qA3
      obtain ⟨qE0, qE1, qE2, qE3⟩ := E11.four
      have gE0 := cell_regrown qE0
      have gE1 := cell_regrown qE1
      have gE2 := cell_regrown qE2
      have gE3 := cell_regrown qE3
      clear qE0 qE1 qE2 qE3
      have cq0 := fun (d : Nat) (os : Array Obj) => Calls.regrown_of (w := w11) (d := d) (os := os) (told_true _ (tab_on HT_.out.1 (btr BW11 (below_regrown w11 d os))))
      have cq1 := fun (d : Nat) (os : Array Obj) => Calls.regrown_of (w := w11) (d := d) (os := os) (KSHR_.out _)
      have cq2 := fun (d : Nat) (os : Array Obj) => Calls.regrown_of (w := w11) (d := d) (os := os) (KNL_.out _)
      have cq3 := fun (d : Nat) (os : Array Obj) => Calls.regrown_of (w := w11) (d := d) (os := os) (KLEN_.out _ _ (DR.keep (below_regrown w11 d os) DX11))
      have cq4 := fun (d : Nat) (os : Array Obj) => Calls.regrown_of (w := w11) (d := d) (os := os) (KNT_.out _ (tb_on HT_.out.2 (btr BW11 (below_regrown w11 d os))))
      have cq5 := fun (d : Nat) (os : Array Obj) => Calls.regrown_of (w := w11) (d := d) (os := os) (KTR_.out _ _ (DR.keep (below_regrown w11 d os) DX11))
      have cq6 := fun (d : Nat) (os : Array Obj) => Calls.regrown_of (w := w11) (d := d) (os := os) (KB1_.out _)
      have cq7 := fun (d : Nat) (os : Array Obj) => Calls.regrown_of (w := w11) (d := d) (os := os) (KD1_.out _ _ (DR.keep (below_regrown w11 d os) DX11))
      have cq8 := fun (d : Nat) (os : Array Obj) => Calls.regrown_of (w := w11) (d := d) (os := os) (KB2_.out _)
      have cq9 := fun (d : Nat) (os : Array Obj) => Calls.regrown_of (w := w11) (d := d) (os := os) (KD2_.out _ _ (DR.keep (below_regrown w11 d os) DX11))
      have cq10 := fun (d : Nat) (os : Array Obj) => Calls.regrown_of (w := w11) (d := d) (os := os) ((fun W => of_any (lb 0 x) W) _)
      refine wp_region_quiet_below (by kernel_rfl) (by kernel_rfl) ?_
      simp only [List.append]
      repeat (first | go_big_quiet_step ((first | (with_reducible exact cq0 _ _) | (with_reducible exact cq1 _ _) | (with_reducible exact cq2 _ _) | (with_reducible exact cq3 _ _) | (with_reducible exact cq4 _ _) | (with_reducible exact cq5 _ _) | (with_reducible exact cq6 _ _) | (with_reducible exact cq7 _ _) | (with_reducible exact cq8 _ _) | (with_reducible exact cq9 _ _) | (with_reducible exact cq10 _ _))) | quiet_step (first | (with_reducible exact cq0 _ _) | (with_reducible exact cq1 _ _) | (with_reducible exact cq2 _ _) | (with_reducible exact cq3 _ _) | (with_reducible exact cq4 _ _) | (with_reducible exact cq5 _ _) | (with_reducible exact cq6 _ _) | (with_reducible exact cq7 _ _) | (with_reducible exact cq8 _ _) | (with_reducible exact cq9 _ _) | (with_reducible exact cq10 _ _)))
      refine wpQuiet_nil ?_
      intro _ hw'
      obtain ⟨⟨dq, osq⟩, hw''⟩ := hw'
      subst hw''
      clear gA0 gA1 gA2 gA3 gE0 gE1 gE2 gE3 cq0 cq1 cq2 cq3 cq4 cq5 cq6 cq7 cq8 cq9 cq10
      have hb := below_regrown w11 dq osq
      generalize grow (redrawn w11 dq) osq = w12 at *
      have BW12 : Below w.heap.size w w12 := btr BW11 hb
      have A12 : Row4 w12 w.heap.size (.int .u64 (lb 0 x)) (.int .u64 (lb 1 x)) (.int .u64 (lb 2 x)) (.int .u64 (lb 3 x)) := Row4.keep hb A11
      have S12 : Row4 w12 w2.heap.size (.int .u64 (lb 0 S)) (.int .u64 (lb 1 S)) (.int .u64 (lb 2 S)) (.int .u64 (lb 3 S)) := Row4.keep hb S11
      have E12 : Row4 w12 w6.heap.size (.int .u64 (lb 0 y2)) (.int .u64 (lb 1 y2)) (.int .u64 (lb 2 y2)) (.int .u64 (lb 3 y2)) := Row4.keep hb E11
      have G12 : Row4 w12 w8.heap.size (.int .u64 (lb 0 F)) (.int .u64 (lb 1 F)) (.int .u64 (lb 2 F)) (.int .u64 (lb 3 F)) := Row4.keep hb G11
      clear A11 S11 E11 G11 BW11 hb
      go_wp2
      go_ret
      exact ⟨rfl, BW12⟩
  · have hd1 : decide (0 ≤ k) = true := decide_eq_true (by omega)
    have hd2 : decide (k ≤ 256) = false := decide_eq_false (by omega)
    as_aux_lemma =>
      go_upto_region 15 with (fail)
      go_name_world w11 hw11
      have BW11 : Below w.heap.size w w11 := by rw [← hw11]; repeat (first | (with_reducible exact BW10) | (with_reducible refine bal ?_ _) | (with_reducible refine Below.drew ?_) | (with_reducible refine bdn ?_ _))
      have hbX : Below w10.heap.size w10 w11 := by rw [← hw11]; repeat (first | (with_reducible exact Below.refl _ _) | (with_reducible refine bal ?_ _) | (with_reducible refine Below.drew ?_) | (with_reducible refine bdn ?_ _))
      have DX11 : DR w11 s1 x := DR.keep hbX DX10
      have DZ11 : DR w11 s3 y2 := DR.keep hbX DZ10
      clear hbX DX10 DZ10
      have A11 : Row4 w11 w.heap.size (.int .u64 (lb 0 x)) (.int .u64 (lb 1 x)) (.int .u64 (lb 2 x)) (.int .u64 (lb 3 x)) := by rw [← hw11]; exact (by repeat (first | (with_reducible exact A10) | (with_reducible refine Row4.alloc ?_ _) | (with_reducible refine Row4.drew ?_)))
      have S11 : Row4 w11 w2.heap.size (.int .u64 (lb 0 S)) (.int .u64 (lb 1 S)) (.int .u64 (lb 2 S)) (.int .u64 (lb 3 S)) := by rw [← hw11]; exact (by repeat (first | (with_reducible exact S10) | (with_reducible refine Row4.alloc ?_ _) | (with_reducible refine Row4.drew ?_)))
      have E11 : Row4 w11 w6.heap.size (.int .u64 (lb 0 y2)) (.int .u64 (lb 1 y2)) (.int .u64 (lb 2 y2)) (.int .u64 (lb 3 y2)) := by rw [← hw11]; exact (by repeat (first | (with_reducible exact E10) | (with_reducible refine Row4.alloc ?_ _) | (with_reducible refine Row4.drew ?_)))
      have G11 : Row4 w11 w8.heap.size (.int .u64 (lb 0 F)) (.int .u64 (lb 1 F)) (.int .u64 (lb 2 F)) (.int .u64 (lb 3 F)) := by rw [← hw11]; exact (by repeat (first | (with_reducible exact G10) | (with_reducible refine Row4.alloc ?_ _) | (with_reducible refine Row4.drew ?_)))
      clear A10 S10 E10 G10
      clear BW10
      clear hw11
      have q2 := Q2_.out; have q3 := Q3_.out
      obtain ⟨qA0, qA1, qA2, qA3⟩ := A11.four
      have gA0 := cell_regrown qA0
      have gA1 := cell_regrown qA1
      have gA2 := cell_regrown qA2
      have gA3 := cell_regrown qA3
      clear qA0 qA1 qA2 qA3
      obtain ⟨qE0, qE1, qE2, qE3⟩ := E11.four
      have gE0 := cell_regrown qE0
      have gE1 := cell_regrown qE1
      have gE2 := cell_regrown qE2
      have gE3 := cell_regrown qE3
      clear qE0 qE1 qE2 qE3
      have cq0 := fun (d : Nat) (os : Array Obj) => Calls.regrown_of (w := w11) (d := d) (os := os) (told_true _ (tab_on HT_.out.1 (btr BW11 (below_regrown w11 d os))))
      have cq1 := fun (d : Nat) (os : Array Obj) => Calls.regrown_of (w := w11) (d := d) (os := os) (KSHR_.out _)
      have cq2 := fun (d : Nat) (os : Array Obj) => Calls.regrown_of (w := w11) (d := d) (os := os) (KNL_.out _)
      have cq3 := fun (d : Nat) (os : Array Obj) => Calls.regrown_of (w := w11) (d := d) (os := os) (KLEN_.out _ _ (DR.keep (below_regrown w11 d os) DX11))
      have cq4 := fun (d : Nat) (os : Array Obj) => Calls.regrown_of (w := w11) (d := d) (os := os) (KNT_.out _ (tb_on HT_.out.2 (btr BW11 (below_regrown w11 d os))))
      have cq5 := fun (d : Nat) (os : Array Obj) => Calls.regrown_of (w := w11) (d := d) (os := os) (KTR_.out _ _ (DR.keep (below_regrown w11 d os) DX11))
      have cq6 := fun (d : Nat) (os : Array Obj) => Calls.regrown_of (w := w11) (d := d) (os := os) (KB1_.out _)
      have cq7 := fun (d : Nat) (os : Array Obj) => Calls.regrown_of (w := w11) (d := d) (os := os) (KD1_.out _ _ (DR.keep (below_regrown w11 d os) DX11))
      have cq8 := fun (d : Nat) (os : Array Obj) => Calls.regrown_of (w := w11) (d := d) (os := os) (KB2_.out _)
      have cq9 := fun (d : Nat) (os : Array Obj) => Calls.regrown_of (w := w11) (d := d) (os := os) (KD2_.out _ _ (DR.keep (below_regrown w11 d os) DX11))
      have cq10 := fun (d : Nat) (os : Array Obj) => Calls.regrown_of (w := w11) (d := d) (os := os) ((fun W => of_any (lb 0 x) W) _)
      refine wp_region_quiet_below (by kernel_rfl) (by kernel_rfl) ?_
      simp only [List.append]
      repeat (first | go_big_quiet_step ((first | (with_reducible exact cq0 _ _) | (with_reducible exact cq1 _ _) | (with_reducible exact cq2 _ _) | (with_reducible exact cq3 _ _) | (with_reducible exact cq4 _ _) | (with_reducible exact cq5 _ _) | (with_reducible exact cq6 _ _) | (with_reducible exact cq7 _ _) | (with_reducible exact cq8 _ _) | (with_reducible exact cq9 _ _) | (with_reducible exact cq10 _ _))) | quiet_step (first | (with_reducible exact cq0 _ _) | (with_reducible exact cq1 _ _) | (with_reducible exact cq2 _ _) | (with_reducible exact cq3 _ _) | (with_reducible exact cq4 _ _) | (with_reducible exact cq5 _ _) | (with_reducible exact cq6 _ _) | (with_reducible exact cq7 _ _) | (with_reducible exact cq8 _ _) | (with_reducible exact cq9 _ _) | (with_reducible exact cq10 _ _)))
      refine wpQuiet_nil ?_
      intro _ hw'
      obtain ⟨⟨dq, osq⟩, hw''⟩ := hw'
      subst hw''
      clear gA0 gA1 gA2 gA3 gE0 gE1 gE2 gE3 cq0 cq1 cq2 cq3 cq4 cq5 cq6 cq7 cq8 cq9 cq10
      have hb := below_regrown w11 dq osq
      generalize grow (redrawn w11 dq) osq = w12 at *
      have BW12 : Below w.heap.size w w12 := btr BW11 hb
      have A12 : Row4 w12 w.heap.size (.int .u64 (lb 0 x)) (.int .u64 (lb 1 x)) (.int .u64 (lb 2 x)) (.int .u64 (lb 3 x)) := Row4.keep hb A11
      have S12 : Row4 w12 w2.heap.size (.int .u64 (lb 0 S)) (.int .u64 (lb 1 S)) (.int .u64 (lb 2 S)) (.int .u64 (lb 3 S)) := Row4.keep hb S11
      have E12 : Row4 w12 w6.heap.size (.int .u64 (lb 0 y2)) (.int .u64 (lb 1 y2)) (.int .u64 (lb 2 y2)) (.int .u64 (lb 3 y2)) := Row4.keep hb E11
      have G12 : Row4 w12 w8.heap.size (.int .u64 (lb 0 F)) (.int .u64 (lb 1 F)) (.int .u64 (lb 2 F)) (.int .u64 (lb 3 F)) := Row4.keep hb G11
      clear A11 S11 E11 G11 BW11 hb
      go_wp2
      go_ret
      exact ⟨rfl, BW12⟩
end Go.Proofs.YtngmdncidieclaaDoor
