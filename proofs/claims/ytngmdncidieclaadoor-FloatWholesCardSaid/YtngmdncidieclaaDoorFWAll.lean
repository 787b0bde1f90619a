/-
  entrepotlaw3.told answers true. The table math/bits.deBruijn64tab reads as its initialiser lays it. The reference's May, OfUint, OfInt: the contracts, for all whole numbers of a sign and four words. float.OfWhole, the reference's Exact and OfWhole: the contracts; entrepotlaw3.FloatWholes: the walk. The table math/bits.deBruijn64tab reads as its initialiser lays it. entrepotlaw3.FloatWholes answers true for every whole number of a sign and four words. The table math/bits.deBruijn64tab reads as its initialiser lays it.
-/
import Derived.Test.YtngmdncidieclaaDoorFltF
import Derived.Test.YtngmdncidieclaaDoorRefWh
import Derived.Test.YtngmdncidieclaaDoorRefPackD
section
namespace Go.Proofs.YtngmdncidieclaaDoor
open Go.RowKit Go.Shelf Go.Sort
attribute [local go_sem ↓] eql_nat neq_nat eql_int5 neq_int5

theorem Iz_word (v : Nat) (h : v < 18446744073709551616) : Iz (v : Int) = .agg #[.bool false, .int .u64 (v : Int), .int .u64 0, .int .u64 0, .int .u64 0] := by
  rw [Iz_nat]
  unfold I5
  obtain ⟨l0, l1, l2, l3⟩ := lb_small (v := (v : Int)) (by omega) (by omega)
  rw [Int.natAbs_natCast] at l0 l1 l2 l3
  rw [l0, l1, l2, l3]
theorem told3_true (w : World) (hT : Tb w) : Calls Tryd.prog 59 #[] w fun e w' => e = .returned (.bool true) ∧ Below w.heap.size w w' := by
  have o1 := Iz_word 1 (by decide)
  refine told3_core w (fun W hW => ?_) (fun W => ?_) (fun W => ?_) (fun W => ?_) (fun W hW => ?_) (fun W hW => ?_) (fun W hW => ?_)
  · have := whole_any 4607182418800017408 (by decide) W (tb_on hT hW)
    have e : WEnd 4607182418800017408 = .tuple #[Iz ((1 : Nat) : Int), .bool true] := by
      unfold WEnd
      rw [show whl 4607182418800017408 = some 1 from by decide +kernel]
      simp only []
      rw [show sg 4607182418800017408 = 0 from by decide, if_neg (by decide)]
    rw [e, o1] at this
    exact this
  · have := tohalf_any 4607182418800017408 (by decide) W
    rw [show toh 4607182418800017408 = (15360, true) from by decide +kernel] at this
    exact calls_below this
  · have := of_z 1 (by decide) (by decide) W
    rw [show (1 : Int) = ((1 : Nat) : Int) from rfl, o1] at this
    exact this
  · have := half_any 15360 (by decide) W
    rw [show hlf 15360 = 4607182418800017408 from by decide +kernel] at this
    exact calls_below this
  · have := class_any 4602678819172646912 (by decide) W (tb_on hT hW)
    rw [show cls 4602678819172646912 = 1 from by decide +kernel] at this
    exact this
  · have := class_any 4607182418800017408 (by decide) W (tb_on hT hW)
    rw [show cls 4607182418800017408 = 0 from by decide +kernel] at this
    exact this
  · have := behind_any 4602678819172646912 (by decide) W (tb_on hT hW)
    rw [show beh 4602678819172646912 = 1 from by decide +kernel] at this
    exact calls_below this

end Go.Proofs.YtngmdncidieclaaDoor
end
section
namespace Go.Proofs.YtngmdncidieclaaDoor
open Go.RowKit Go.Shelf
attribute [local go_sem ↓] eql_nat neq_nat eql_int5 neq_int5

theorem rmay_pos (x0 x1 x2 x3 : Int) (w : World) :
    Calls Tryd.prog 29 #[.agg #[.bool false, .int .u64 x0, .int .u64 x1, .int .u64 x2, .int .u64 x3]] w fun e w' => e = .returned (.bool true) ∧ Below w.heap.size w w' := by
  go_enter Tryd.func29, Tryd.ntmps29
  go_wp2
  go_ret
  exact ⟨rfl, by repeat (first | exact Below.refl _ _ | refine bal ?_ _ | refine Below.drew ?_ | refine bdn ?_ _)⟩
theorem rmay_neg (x0 x1 x2 x3 : Int) (w : World) :
    Calls Tryd.prog 29 #[.agg #[.bool true, .int .u64 x0, .int .u64 x1, .int .u64 x2, .int .u64 x3]] w fun e w' => e = .returned (.bool (!eq4 x0 x1 x2 x3 0 0 0 0)) ∧ Below w.heap.size w w' := by
  go_enter Tryd.func29, Tryd.ntmps29
  go_wp2
  go_ret
  exact ⟨rfl, by repeat (first | exact Below.refl _ _ | refine bal ?_ _ | refine Below.drew ?_ | refine bdn ?_ _)⟩
theorem rofuint (v : Int) (w : World) :
    Calls Tryd.prog 33 #[.int .u64 v] w fun e w' => e = .returned (.agg #[.bool false, .int .u64 v, .int .u64 0, .int .u64 0, .int .u64 0]) ∧ Below w.heap.size w w' := by
  go_enter Tryd.func33, Tryd.ntmps33
  go_wp2
  refine bodyPost_ret (v := .agg #[.bool false, .int .u64 v, .int .u64 0, .int .u64 0, .int .u64 0]) (by simp [results, Tryd.results33, go_sem]) rfl ⟨rfl, ?_⟩
  repeat (first | (with_reducible exact Below.refl _ _) | (with_reducible refine bal ?_ _) | (with_reducible refine Below.drew ?_) | (with_reducible refine bdn ?_ _) | ((with_reducible refine bsc ?_ ?_ _); rotate_left; (focus (simp only []; omega))))
theorem rofint_pos (v : Int) (h0 : ¬ v < 0) (h1 : v < 9223372036854775808) (w : World) :
    Calls Tryd.prog 31 #[.int .i64 v] w fun e w' => e = .returned (.agg #[.bool false, .int .u64 v, .int .u64 0, .int .u64 0, .int .u64 0]) ∧ Below w.heap.size w w' := by
  have w1 : IntKind.u64.wrap v = v := by rw [IntKind.wrap_u64]; omega
  go_enter Tryd.func31, Tryd.ntmps31
  go_wp2
  refine bodyPost_ret (v := .agg #[.bool false, .int .u64 v, .int .u64 0, .int .u64 0, .int .u64 0]) (by simp [results, Tryd.results31, go_sem]) rfl ⟨rfl, ?_⟩
  repeat (first | (with_reducible exact Below.refl _ _) | (with_reducible refine bal ?_ _) | (with_reducible refine Below.drew ?_) | (with_reducible refine bdn ?_ _) | ((with_reducible refine bsc ?_ ?_ _); rotate_left; (focus (simp only []; omega))))
theorem rofint_neg (v p q : Int) (h0 : v < 0) (h1 : -9223372036854775808 ≤ v) (hp : p = v + 1) (hq : q = -p) (w : World) :
    Calls Tryd.prog 31 #[.int .i64 v] w fun e w' => e = .returned (.agg #[.bool true, .int .u64 (-v), .int .u64 0, .int .u64 0, .int .u64 0]) ∧ Below w.heap.size w w' := by
  have w0 : IntKind.i64.wrap (v + 1) = p := by rw [Go.IntWalk.i64_in _ (by omega)]; omega
  have w1 : IntKind.i64.wrap (-p) = q := by rw [Go.IntWalk.i64_in _ (by omega)]; omega
  have w2 : IntKind.u64.wrap q = q := by rw [IntKind.wrap_u64]; omega
  have w3 : IntKind.u64.wrap (q + 1) = -v := by rw [IntKind.wrap_u64]; omega
  clear hp hq
  go_enter Tryd.func31, Tryd.ntmps31
  go_wp2
  refine bodyPost_ret (v := .agg #[.bool true, .int .u64 (-v), .int .u64 0, .int .u64 0, .int .u64 0]) (by simp [results, Tryd.results31, go_sem]) rfl ⟨rfl, ?_⟩
  repeat (first | (with_reducible exact Below.refl _ _) | (with_reducible refine bal ?_ _) | (with_reducible refine Below.drew ?_) | (with_reducible refine bdn ?_ _) | ((with_reducible refine bsc ?_ ?_ _); rotate_left; (focus (simp only []; omega))))
end Go.Proofs.YtngmdncidieclaaDoor
end
section
namespace Go.Proofs.YtngmdncidieclaaDoor
open Go.RowKit Go.Shelf
attribute [local go_sem ↓] eql_nat neq_nat eql_int5 neq_int5

set_option maxHeartbeats 1000000 in
set_option maxRecDepth 100000 in
theorem ofwhole_no (g : Bool) (x : Nat) (w : World) (hT : Tb w)
    (k1 : ∀ W, Tb W → Calls Tryd.prog 53 #[I5 g x] W fun e w' => e = .returned (.bool false) ∧ Below W.heap.size W w') :
    Calls Tryd.prog 64 #[I5 g x] w fun e w' => e = .returned (.tuple #[.int .u64 0, .bool false]) ∧ Below w.heap.size w w' := by
  unfold I5 at *
  have HT := Lib.hid hT; clear hT; have K1 := Lib.hid k1; clear k1
  go_enter Tryd.func64, Tryd.ntmps64
  go_wp2_with fail
  refine (K1.out _ (tb_on HT.out (by repeat (first | (with_reducible exact Below.refl _ _) | (with_reducible refine bal ?_ _) | (with_reducible refine Below.drew ?_) | (with_reducible refine bdn ?_ _))))).mono ?_
  rintro e w1 ⟨rfl, hb⟩
  have BW1 : Below w.heap.size w w1 := btr (by repeat (first | (with_reducible exact Below.refl _ _) | (with_reducible refine bal ?_ _) | (with_reducible refine Below.drew ?_) | (with_reducible refine bdn ?_ _))) hb
  have X1 : Row5 w1 w.heap.size (.bool g) (.int .u64 (lb 0 x)) (.int .u64 (lb 1 x)) (.int .u64 (lb 2 x)) (.int .u64 (lb 3 x)) := Row5.keep hb (by repeat (first | (with_reducible exact Row5.new _ _ _ _ _ _) | ((with_reducible refine Row5.new' _ ?_ _ _ _ _ _); (simp; done)) | (with_reducible refine Row5.alloc ?_ _) | (with_reducible refine Row5.drew ?_)))
  clear hb
  go_wp2
  exact bodyPost_ret (v := .tuple #[.int .u64 0, .bool false]) (by simp [results, Tryd.results64, go_sem]) rfl ⟨rfl, BW1⟩
set_option maxHeartbeats 1000000 in
set_option maxRecDepth 100000 in
theorem ofwhole_pos (x y : Nat) (t d r : Int) (w : World) (hT : Tb w)
    (k1 : ∀ W, Tb W → Calls Tryd.prog 53 #[I5 false x] W fun e w' => e = .returned (.bool true) ∧ Below W.heap.size W w')
    (k2 : ∀ W, Tb W → Calls Tryd.prog 19 #[N4 x] W fun e w' => e = .returned (.int .i64 t) ∧ Below W.heap.size W w')
    (k3 : ∀ W, Calls Tryd.prog 17 #[N4 x, .int .i64 t] W fun e w' => e = .returned (N4 y) ∧ Below W.heap.size W w')
    (k4 : ∀ W, Calls Tryd.prog 15 #[N4 y] W fun e w' => e = .returned (.tuple #[.int .u64 d, .bool true]) ∧ Below W.heap.size W w')
    (k5 : ∀ W, Calls Tryd.prog 99 #[.int .u64 d, .int .i64 t] W fun e w' => e = .returned (.int .u64 r) ∧ Below W.heap.size W w') :
    Calls Tryd.prog 64 #[I5 false x] w fun e w' => e = .returned (.tuple #[.int .u64 r, .bool true]) ∧ Below w.heap.size w w' := by
  unfold I5 at *
  have HT := Lib.hid hT; clear hT; have K1 := Lib.hid k1; have K2 := Lib.hid k2; have K3 := Lib.hid k3; have K4 := Lib.hid k4; have K5 := Lib.hid k5; clear k1 k2 k3 k4 k5
  go_enter Tryd.func64, Tryd.ntmps64
  go_wp2_with fail
  refine (K1.out _ (tb_on HT.out (by repeat (first | (with_reducible exact Below.refl _ _) | (with_reducible refine bal ?_ _) | (with_reducible refine Below.drew ?_) | (with_reducible refine bdn ?_ _))))).mono ?_
  rintro e w1 ⟨rfl, hb⟩
  have BW1 : Below w.heap.size w w1 := btr (by repeat (first | (with_reducible exact Below.refl _ _) | (with_reducible refine bal ?_ _) | (with_reducible refine Below.drew ?_) | (with_reducible refine bdn ?_ _))) hb
  have X1 : Row5 w1 w.heap.size (.bool false) (.int .u64 (lb 0 x)) (.int .u64 (lb 1 x)) (.int .u64 (lb 2 x)) (.int .u64 (lb 3 x)) := Row5.keep hb (by repeat (first | (with_reducible exact Row5.new _ _ _ _ _ _) | ((with_reducible refine Row5.new' _ ?_ _ _ _ _ _); (simp; done)) | (with_reducible refine Row5.alloc ?_ _) | (with_reducible refine Row5.drew ?_)))
  clear hb
  obtain ⟨Xc0, Xc1, Xc2, Xc3, Xc4⟩ := X1.parts
  obtain ⟨Xf0, Xf1, Xf2, Xf3, Xf4⟩ := X1.free
  go_wp2_with fail
  refine (K2.out _ (tb_on HT.out (by repeat (first | (with_reducible exact BW1) | (with_reducible refine bal ?_ _) | (with_reducible refine Below.drew ?_) | (with_reducible refine bdn ?_ _))))).mono ?_
  rintro e w2 ⟨rfl, hb⟩
  have BW2 : Below w.heap.size w w2 := btr (by repeat (first | (with_reducible exact BW1) | (with_reducible refine bal ?_ _) | (with_reducible refine Below.drew ?_) | (with_reducible refine bdn ?_ _))) hb
  have X2 : Row5 w2 w.heap.size (.bool false) (.int .u64 (lb 0 x)) (.int .u64 (lb 1 x)) (.int .u64 (lb 2 x)) (.int .u64 (lb 3 x)) := Row5.keep hb (by repeat (first | (with_reducible exact X1) | (with_reducible refine Row5.alloc ?_ _) | (with_reducible refine Row5.drew ?_)))
  clear X1
  clear BW1
  clear hb
  obtain ⟨Xc0, Xc1, Xc2, Xc3, Xc4⟩ := X2.parts
  obtain ⟨Xf0, Xf1, Xf2, Xf3, Xf4⟩ := X2.free
  go_wp2_with fail
  refine (K3.out _).mono ?_
  rintro e w3 ⟨rfl, hb⟩
  have BW3 : Below w.heap.size w w3 := btr (by repeat (first | (with_reducible exact BW2) | (with_reducible refine bal ?_ _) | (with_reducible refine Below.drew ?_) | (with_reducible refine bdn ?_ _))) hb
  have X3 : Row5 w3 w.heap.size (.bool false) (.int .u64 (lb 0 x)) (.int .u64 (lb 1 x)) (.int .u64 (lb 2 x)) (.int .u64 (lb 3 x)) := Row5.keep hb (by repeat (first | (with_reducible exact X2) | (with_reducible refine Row5.alloc ?_ _) | (with_reducible refine Row5.drew ?_)))
  clear X2
  clear BW2
  clear hb
  go_wp2_with fail
  refine (K4.out _).mono ?_
  rintro e w4 ⟨rfl, hb⟩
  have BW4 : Below w.heap.size w w4 := btr (by repeat (first | (with_reducible exact BW3) | (with_reducible refine bal ?_ _) | (with_reducible refine Below.drew ?_) | (with_reducible refine bdn ?_ _))) hb
  have X4 : Row5 w4 w.heap.size (.bool false) (.int .u64 (lb 0 x)) (.int .u64 (lb 1 x)) (.int .u64 (lb 2 x)) (.int .u64 (lb 3 x)) := Row5.keep hb (by repeat (first | (with_reducible exact X3) | (with_reducible refine Row5.alloc ?_ _) | (with_reducible refine Row5.drew ?_)))
  clear X3
  clear BW3
  clear hb
  obtain ⟨Xc0, Xc1, Xc2, Xc3, Xc4⟩ := X4.parts
  obtain ⟨Xf0, Xf1, Xf2, Xf3, Xf4⟩ := X4.free
  go_wp2_with fail
  refine (K5.out _).mono ?_
  rintro e w5 ⟨rfl, hb⟩
  have BW5 : Below w.heap.size w w5 := btr (by repeat (first | (with_reducible exact BW4) | (with_reducible refine bal ?_ _) | (with_reducible refine Below.drew ?_) | (with_reducible refine bdn ?_ _))) hb
  have X5 : Row5 w5 w.heap.size (.bool false) (.int .u64 (lb 0 x)) (.int .u64 (lb 1 x)) (.int .u64 (lb 2 x)) (.int .u64 (lb 3 x)) := Row5.keep hb (by repeat (first | (with_reducible exact X4) | (with_reducible refine Row5.alloc ?_ _) | (with_reducible refine Row5.drew ?_)))
  clear X4
  clear BW4
  clear hb
  go_wp2
  exact bodyPost_ret (v := .tuple #[.int .u64 r, .bool true]) (by simp [results, Tryd.results64, go_sem]) rfl ⟨rfl, BW5⟩
set_option maxHeartbeats 1000000 in
set_option maxRecDepth 100000 in
theorem ofwhole_neg (x y : Nat) (t d r z : Int) (hz : bits .or .u64 9223372036854775808 r = z) (w : World) (hT : Tb w)
    (k1 : ∀ W, Tb W → Calls Tryd.prog 53 #[I5 true x] W fun e w' => e = .returned (.bool true) ∧ Below W.heap.size W w')
    (k2 : ∀ W, Tb W → Calls Tryd.prog 19 #[N4 x] W fun e w' => e = .returned (.int .i64 t) ∧ Below W.heap.size W w')
    (k3 : ∀ W, Calls Tryd.prog 17 #[N4 x, .int .i64 t] W fun e w' => e = .returned (N4 y) ∧ Below W.heap.size W w')
    (k4 : ∀ W, Calls Tryd.prog 15 #[N4 y] W fun e w' => e = .returned (.tuple #[.int .u64 d, .bool true]) ∧ Below W.heap.size W w')
    (k5 : ∀ W, Calls Tryd.prog 99 #[.int .u64 d, .int .i64 t] W fun e w' => e = .returned (.int .u64 r) ∧ Below W.heap.size W w') :
    Calls Tryd.prog 64 #[I5 true x] w fun e w' => e = .returned (.tuple #[.int .u64 z, .bool true]) ∧ Below w.heap.size w w' := by
  unfold I5 at *
  have HT := Lib.hid hT; clear hT; have K1 := Lib.hid k1; have K2 := Lib.hid k2; have K3 := Lib.hid k3; have K4 := Lib.hid k4; have K5 := Lib.hid k5; clear k1 k2 k3 k4 k5
  go_enter Tryd.func64, Tryd.ntmps64
  go_wp2_with fail
  refine (K1.out _ (tb_on HT.out (by repeat (first | (with_reducible exact Below.refl _ _) | (with_reducible refine bal ?_ _) | (with_reducible refine Below.drew ?_) | (with_reducible refine bdn ?_ _))))).mono ?_
  rintro e w1 ⟨rfl, hb⟩
  have BW1 : Below w.heap.size w w1 := btr (by repeat (first | (with_reducible exact Below.refl _ _) | (with_reducible refine bal ?_ _) | (with_reducible refine Below.drew ?_) | (with_reducible refine bdn ?_ _))) hb
  have X1 : Row5 w1 w.heap.size (.bool true) (.int .u64 (lb 0 x)) (.int .u64 (lb 1 x)) (.int .u64 (lb 2 x)) (.int .u64 (lb 3 x)) := Row5.keep hb (by repeat (first | (with_reducible exact Row5.new _ _ _ _ _ _) | ((with_reducible refine Row5.new' _ ?_ _ _ _ _ _); (simp; done)) | (with_reducible refine Row5.alloc ?_ _) | (with_reducible refine Row5.drew ?_)))
  clear hb
  obtain ⟨Xc0, Xc1, Xc2, Xc3, Xc4⟩ := X1.parts
  obtain ⟨Xf0, Xf1, Xf2, Xf3, Xf4⟩ := X1.free
  go_wp2_with fail
  refine (K2.out _ (tb_on HT.out (by repeat (first | (with_reducible exact BW1) | (with_reducible refine bal ?_ _) | (with_reducible refine Below.drew ?_) | (with_reducible refine bdn ?_ _))))).mono ?_
  rintro e w2 ⟨rfl, hb⟩
  have BW2 : Below w.heap.size w w2 := btr (by repeat (first | (with_reducible exact BW1) | (with_reducible refine bal ?_ _) | (with_reducible refine Below.drew ?_) | (with_reducible refine bdn ?_ _))) hb
  have X2 : Row5 w2 w.heap.size (.bool true) (.int .u64 (lb 0 x)) (.int .u64 (lb 1 x)) (.int .u64 (lb 2 x)) (.int .u64 (lb 3 x)) := Row5.keep hb (by repeat (first | (with_reducible exact X1) | (with_reducible refine Row5.alloc ?_ _) | (with_reducible refine Row5.drew ?_)))
  clear X1
  clear BW1
  clear hb
  obtain ⟨Xc0, Xc1, Xc2, Xc3, Xc4⟩ := X2.parts
  obtain ⟨Xf0, Xf1, Xf2, Xf3, Xf4⟩ := X2.free
  go_wp2_with fail
  refine (K3.out _).mono ?_
  rintro e w3 ⟨rfl, hb⟩
  have BW3 : Below w.heap.size w w3 := btr (by repeat (first | (with_reducible exact BW2) | (with_reducible refine bal ?_ _) | (with_reducible refine Below.drew ?_) | (with_reducible refine bdn ?_ _))) hb
  have X3 : Row5 w3 w.heap.size (.bool true) (.int .u64 (lb 0 x)) (.int .u64 (lb 1 x)) (.int .u64 (lb 2 x)) (.int .u64 (lb 3 x)) := Row5.keep hb (by repeat (first | (with_reducible exact X2) | (with_reducible refine Row5.alloc ?_ _) | (with_reducible refine Row5.drew ?_)))
  clear X2
  clear BW2
  clear hb
  go_wp2_with fail
  refine (K4.out _).mono ?_
  rintro e w4 ⟨rfl, hb⟩
  have BW4 : Below w.heap.size w w4 := btr (by repeat (first | (with_reducible exact BW3) | (with_reducible refine bal ?_ _) | (with_reducible refine Below.drew ?_) | (with_reducible refine bdn ?_ _))) hb
  have X4 : Row5 w4 w.heap.size (.bool true) (.int .u64 (lb 0 x)) (.int .u64 (lb 1 x)) (.int .u64 (lb 2 x)) (.int .u64 (lb 3 x)) := Row5.keep hb (by repeat (first | (with_reducible exact X3) | (with_reducible refine Row5.alloc ?_ _) | (with_reducible refine Row5.drew ?_)))
  clear X3
  clear BW3
  clear hb
  obtain ⟨Xc0, Xc1, Xc2, Xc3, Xc4⟩ := X4.parts
  obtain ⟨Xf0, Xf1, Xf2, Xf3, Xf4⟩ := X4.free
  go_wp2_with fail
  refine (K5.out _).mono ?_
  rintro e w5 ⟨rfl, hb⟩
  have BW5 : Below w.heap.size w w5 := btr (by repeat (first | (with_reducible exact BW4) | (with_reducible refine bal ?_ _) | (with_reducible refine Below.drew ?_) | (with_reducible refine bdn ?_ _))) hb
  have X5 : Row5 w5 w.heap.size (.bool true) (.int .u64 (lb 0 x)) (.int .u64 (lb 1 x)) (.int .u64 (lb 2 x)) (.int .u64 (lb 3 x)) := Row5.keep hb (by repeat (first | (with_reducible exact X4) | (with_reducible refine Row5.alloc ?_ _) | (with_reducible refine Row5.drew ?_)))
  clear X4
  clear BW4
  clear hb
  go_wp2
  exact bodyPost_ret (v := .tuple #[.int .u64 z, .bool true]) (by simp [results, Tryd.results64, go_sem]) rfl ⟨rfl, BW5⟩
set_option maxHeartbeats 1000000 in
set_option maxRecDepth 100000 in
theorem rexact_zero (g : Bool) (x : Nat) (hx : x < 2 ^ 256) (w : World)
    (k1 : ∀ W, Calls Tryd.prog 29 #[I5 g x] W fun e w' => e = .returned (.bool true) ∧ Below W.heap.size W w')
    (k2 : ∀ s' W, DR W s' x → Calls Tryd.prog 12 #[s'] W fun e w' => e = .returned (.int .i64 0) ∧ Below W.heap.size W w') :
    Calls Tryd.prog 54 #[I5 g x] w fun e w' => e = .returned (.bool true) ∧ Below w.heap.size w w' := by
  unfold I5 at *
  have HX := Lib.hid hx; have K1 := Lib.hid k1; have K2 := Lib.hid k2; clear hx k1 k2
  go_enter Tryd.func54, Tryd.ntmps54
  go_wp2_with fail
  refine (rof x HX.out _).mono ?_
  rintro e w1 ⟨s1, rfl, hr, hb⟩
  have hbX : Below w.heap.size w w1 := btr (by repeat (first | (with_reducible exact Below.refl _ _) | (with_reducible refine bal ?_ _) | (with_reducible refine Below.drew ?_) | (with_reducible refine bdn ?_ _))) hb
  clear hbX
  have DX1 : DR w1 s1 x := hr
  clear hr
  have BW1 : Below w.heap.size w w1 := btr (by repeat (first | (with_reducible exact Below.refl _ _) | (with_reducible refine bal ?_ _) | (with_reducible refine Below.drew ?_) | (with_reducible refine bdn ?_ _))) hb
  have X1 : Row5 w1 w.heap.size (.bool g) (.int .u64 (lb 0 x)) (.int .u64 (lb 1 x)) (.int .u64 (lb 2 x)) (.int .u64 (lb 3 x)) := Row5.keep hb (by repeat (first | (with_reducible exact Row5.new _ _ _ _ _ _) | ((with_reducible refine Row5.new' _ ?_ _ _ _ _ _); (simp; done)) | (with_reducible refine Row5.alloc ?_ _) | (with_reducible refine Row5.drew ?_)))
  clear hb
  obtain ⟨Xc0, Xc1, Xc2, Xc3, Xc4⟩ := X1.parts
  obtain ⟨Xf0, Xf1, Xf2, Xf3, Xf4⟩ := X1.free
  go_wp2_with fail
  refine (K1.out _).mono ?_
  rintro e w2 ⟨rfl, hb⟩
  have hbX : Below w1.heap.size w1 w2 := btr (by repeat (first | (with_reducible exact Below.refl _ _) | (with_reducible refine bal ?_ _) | (with_reducible refine Below.drew ?_) | (with_reducible refine bdn ?_ _))) hb
  have DX2 : DR w2 s1 x := DR.keep hbX DX1
  clear DX1
  clear hbX
  have BW2 : Below w.heap.size w w2 := btr (by repeat (first | (with_reducible exact BW1) | (with_reducible refine bal ?_ _) | (with_reducible refine Below.drew ?_) | (with_reducible refine bdn ?_ _))) hb
  have X2 : Row5 w2 w.heap.size (.bool g) (.int .u64 (lb 0 x)) (.int .u64 (lb 1 x)) (.int .u64 (lb 2 x)) (.int .u64 (lb 3 x)) := Row5.keep hb (by repeat (first | (with_reducible exact X1) | (with_reducible refine Row5.alloc ?_ _) | (with_reducible refine Row5.drew ?_)))
  clear X1
  clear BW1
  clear hb
  go_wp2_with fail
  refine (K2.out _ _ (DR.keep (by repeat (first | (with_reducible exact Below.refl _ _) | (with_reducible refine bal ?_ _) | (with_reducible refine Below.drew ?_) | (with_reducible refine bdn ?_ _))) DX2)).mono ?_
  rintro e w3 ⟨rfl, hb⟩
  have hbX : Below w2.heap.size w2 w3 := btr (by repeat (first | (with_reducible exact Below.refl _ _) | (with_reducible refine bal ?_ _) | (with_reducible refine Below.drew ?_) | (with_reducible refine bdn ?_ _))) hb
  have DX3 : DR w3 s1 x := DR.keep hbX DX2
  clear DX2
  clear hbX
  have BW3 : Below w.heap.size w w3 := btr (by repeat (first | (with_reducible exact BW2) | (with_reducible refine bal ?_ _) | (with_reducible refine Below.drew ?_) | (with_reducible refine bdn ?_ _))) hb
  have X3 : Row5 w3 w.heap.size (.bool g) (.int .u64 (lb 0 x)) (.int .u64 (lb 1 x)) (.int .u64 (lb 2 x)) (.int .u64 (lb 3 x)) := Row5.keep hb (by repeat (first | (with_reducible exact X2) | (with_reducible refine Row5.alloc ?_ _) | (with_reducible refine Row5.drew ?_)))
  clear X2
  clear BW2
  clear hb
  go_wp2
  go_ret
  exact ⟨rfl, BW3⟩
set_option maxHeartbeats 1000000 in
set_option maxRecDepth 100000 in
theorem rexact_some (g : Bool) (x : Nat) (hx : x < 2 ^ 256) (L t : Nat) (hL : ((L : Int) == 0) = false) (hL2 : L ≤ 2000) (ht : t ≤ 2000) (hq : (L : Int) - t ≤ 53) (w : World)
    (k1 : ∀ W, Calls Tryd.prog 29 #[I5 g x] W fun e w' => e = .returned (.bool true) ∧ Below W.heap.size W w')
    (k2 : ∀ s' W, DR W s' x → Calls Tryd.prog 12 #[s'] W fun e w' => e = .returned (.int .i64 (L : Int)) ∧ Below W.heap.size W w')
    (k3 : ∀ s' W, DR W s' x → Calls Tryd.prog 20 #[s'] W fun e w' => e = .returned (.int .i64 (t : Int)) ∧ Below W.heap.size W w') :
    Calls Tryd.prog 54 #[I5 g x] w fun e w' => e = .returned (.bool true) ∧ Below w.heap.size w w' := by
  unfold I5 at *
  have HX := Lib.hid hx; have K1 := Lib.hid k1; have K2 := Lib.hid k2; have K3 := Lib.hid k3; clear hx k1 k2 k3
  go_enter Tryd.func54, Tryd.ntmps54
  go_wp2_with fail
  refine (rof x HX.out _).mono ?_
  rintro e w1 ⟨s1, rfl, hr, hb⟩
  have hbX : Below w.heap.size w w1 := btr (by repeat (first | (with_reducible exact Below.refl _ _) | (with_reducible refine bal ?_ _) | (with_reducible refine Below.drew ?_) | (with_reducible refine bdn ?_ _))) hb
  clear hbX
  have DX1 : DR w1 s1 x := hr
  clear hr
  have BW1 : Below w.heap.size w w1 := btr (by repeat (first | (with_reducible exact Below.refl _ _) | (with_reducible refine bal ?_ _) | (with_reducible refine Below.drew ?_) | (with_reducible refine bdn ?_ _))) hb
  have X1 : Row5 w1 w.heap.size (.bool g) (.int .u64 (lb 0 x)) (.int .u64 (lb 1 x)) (.int .u64 (lb 2 x)) (.int .u64 (lb 3 x)) := Row5.keep hb (by repeat (first | (with_reducible exact Row5.new _ _ _ _ _ _) | ((with_reducible refine Row5.new' _ ?_ _ _ _ _ _); (simp; done)) | (with_reducible refine Row5.alloc ?_ _) | (with_reducible refine Row5.drew ?_)))
  clear hb
  obtain ⟨Xc0, Xc1, Xc2, Xc3, Xc4⟩ := X1.parts
  obtain ⟨Xf0, Xf1, Xf2, Xf3, Xf4⟩ := X1.free
  go_wp2_with fail
  refine (K1.out _).mono ?_
  rintro e w2 ⟨rfl, hb⟩
  have hbX : Below w1.heap.size w1 w2 := btr (by repeat (first | (with_reducible exact Below.refl _ _) | (with_reducible refine bal ?_ _) | (with_reducible refine Below.drew ?_) | (with_reducible refine bdn ?_ _))) hb
  have DX2 : DR w2 s1 x := DR.keep hbX DX1
  clear DX1
  clear hbX
  have BW2 : Below w.heap.size w w2 := btr (by repeat (first | (with_reducible exact BW1) | (with_reducible refine bal ?_ _) | (with_reducible refine Below.drew ?_) | (with_reducible refine bdn ?_ _))) hb
  have X2 : Row5 w2 w.heap.size (.bool g) (.int .u64 (lb 0 x)) (.int .u64 (lb 1 x)) (.int .u64 (lb 2 x)) (.int .u64 (lb 3 x)) := Row5.keep hb (by repeat (first | (with_reducible exact X1) | (with_reducible refine Row5.alloc ?_ _) | (with_reducible refine Row5.drew ?_)))
  clear X1
  clear BW1
  clear hb
  go_wp2_with fail
  refine (K2.out _ _ (DR.keep (by repeat (first | (with_reducible exact Below.refl _ _) | (with_reducible refine bal ?_ _) | (with_reducible refine Below.drew ?_) | (with_reducible refine bdn ?_ _))) DX2)).mono ?_
  rintro e w3 ⟨rfl, hb⟩
  have hbX : Below w2.heap.size w2 w3 := btr (by repeat (first | (with_reducible exact Below.refl _ _) | (with_reducible refine bal ?_ _) | (with_reducible refine Below.drew ?_) | (with_reducible refine bdn ?_ _))) hb
  have DX3 : DR w3 s1 x := DR.keep hbX DX2
  clear DX2
  clear hbX
  have BW3 : Below w.heap.size w w3 := btr (by repeat (first | (with_reducible exact BW2) | (with_reducible refine bal ?_ _) | (with_reducible refine Below.drew ?_) | (with_reducible refine bdn ?_ _))) hb
  have X3 : Row5 w3 w.heap.size (.bool g) (.int .u64 (lb 0 x)) (.int .u64 (lb 1 x)) (.int .u64 (lb 2 x)) (.int .u64 (lb 3 x)) := Row5.keep hb (by repeat (first | (with_reducible exact X2) | (with_reducible refine Row5.alloc ?_ _) | (with_reducible refine Row5.drew ?_)))
  clear X2
  clear BW2
  clear hb
  go_wp2_with fail
  refine (K2.out _ _ (DR.keep (by repeat (first | (with_reducible exact Below.refl _ _) | (with_reducible refine bal ?_ _) | (with_reducible refine Below.drew ?_) | (with_reducible refine bdn ?_ _))) DX3)).mono ?_
  rintro e w4 ⟨rfl, hb⟩
  have hbX : Below w3.heap.size w3 w4 := btr (by repeat (first | (with_reducible exact Below.refl _ _) | (with_reducible refine bal ?_ _) | (with_reducible refine Below.drew ?_) | (with_reducible refine bdn ?_ _))) hb
  have DX4 : DR w4 s1 x := DR.keep hbX DX3
  clear DX3
  clear hbX
  have BW4 : Below w.heap.size w w4 := btr (by repeat (first | (with_reducible exact BW3) | (with_reducible refine bal ?_ _) | (with_reducible refine Below.drew ?_) | (with_reducible refine bdn ?_ _))) hb
  have X4 : Row5 w4 w.heap.size (.bool g) (.int .u64 (lb 0 x)) (.int .u64 (lb 1 x)) (.int .u64 (lb 2 x)) (.int .u64 (lb 3 x)) := Row5.keep hb (by repeat (first | (with_reducible exact X3) | (with_reducible refine Row5.alloc ?_ _) | (with_reducible refine Row5.drew ?_)))
  clear X3
  clear BW3
  clear hb
  go_wp2_with fail
  refine (K3.out _ _ (DR.keep (by repeat (first | (with_reducible exact Below.refl _ _) | (with_reducible refine bal ?_ _) | (with_reducible refine Below.drew ?_) | (with_reducible refine bdn ?_ _))) DX4)).mono ?_
  rintro e w5 ⟨rfl, hb⟩
  have hbX : Below w4.heap.size w4 w5 := btr (by repeat (first | (with_reducible exact Below.refl _ _) | (with_reducible refine bal ?_ _) | (with_reducible refine Below.drew ?_) | (with_reducible refine bdn ?_ _))) hb
  have DX5 : DR w5 s1 x := DR.keep hbX DX4
  clear DX4
  clear hbX
  have BW5 : Below w.heap.size w w5 := btr (by repeat (first | (with_reducible exact BW4) | (with_reducible refine bal ?_ _) | (with_reducible refine Below.drew ?_) | (with_reducible refine bdn ?_ _))) hb
  have X5 : Row5 w5 w.heap.size (.bool g) (.int .u64 (lb 0 x)) (.int .u64 (lb 1 x)) (.int .u64 (lb 2 x)) (.int .u64 (lb 3 x)) := Row5.keep hb (by repeat (first | (with_reducible exact X4) | (with_reducible refine Row5.alloc ?_ _) | (with_reducible refine Row5.drew ?_)))
  clear X4
  clear BW4
  clear hb
  go_wp2
  go_ret
  exact ⟨rfl, BW5⟩
set_option maxHeartbeats 1000000 in
set_option maxRecDepth 100000 in
theorem rofwhole_core (g : Bool) (x : Nat) (r : Int) (hx : x < 2 ^ 256) (w : World)
    (k1 : ∀ W, Calls Tryd.prog 54 #[I5 g x] W fun e w' => e = .returned (.bool true) ∧ Below W.heap.size W w')
    (k2 : ∀ s' W, DR W s' x → Calls Tryd.prog 107 #[.bool g, s', .int .i64 0, .int .i64 53, .int .i64 11] W fun e w' => e = .returned (.tuple #[.int .u64 r, .bool true]) ∧ Below W.heap.size W w') :
    Calls Tryd.prog 66 #[I5 g x] w fun e w' => e = .returned (.tuple #[.int .u64 r, .bool true]) ∧ Below w.heap.size w w' := by
  unfold I5 at *
  have HX := Lib.hid hx; have K1 := Lib.hid k1; have K2 := Lib.hid k2; clear hx k1 k2
  go_enter Tryd.func66, Tryd.ntmps66
  go_wp2_with fail
  refine (K1.out _).mono ?_
  rintro e w1 ⟨rfl, hb⟩
  have BW1 : Below w.heap.size w w1 := btr (by repeat (first | (with_reducible exact Below.refl _ _) | (with_reducible refine bal ?_ _) | (with_reducible refine Below.drew ?_) | (with_reducible refine bdn ?_ _))) hb
  have X1 : Row5 w1 w.heap.size (.bool g) (.int .u64 (lb 0 x)) (.int .u64 (lb 1 x)) (.int .u64 (lb 2 x)) (.int .u64 (lb 3 x)) := Row5.keep hb (by repeat (first | (with_reducible exact Row5.new _ _ _ _ _ _) | ((with_reducible refine Row5.new' _ ?_ _ _ _ _ _); (simp; done)) | (with_reducible refine Row5.alloc ?_ _) | (with_reducible refine Row5.drew ?_)))
  clear hb
  go_upto_region 3 with (fail)
  go_name_world w2 hw2
  have BW2 : Below w.heap.size w w2 := by rw [← hw2]; repeat (first | (with_reducible exact BW1) | (with_reducible refine bal ?_ _) | (with_reducible refine Below.drew ?_) | (with_reducible refine bdn ?_ _))
  have X2 : Row5 w2 w.heap.size (.bool g) (.int .u64 (lb 0 x)) (.int .u64 (lb 1 x)) (.int .u64 (lb 2 x)) (.int .u64 (lb 3 x)) := by rw [← hw2]; exact (by repeat (first | (with_reducible exact X1) | (with_reducible refine Row5.alloc ?_ _) | (with_reducible refine Row5.drew ?_)))
  clear X1
  clear BW1
  clear hw2
  have lt_X := X2.lt
  go_region_held3 (fun w' => w'.cell? ⟨w.heap.size, 0, none⟩ = some (.bool g) ∧ w'.cell? ⟨w.heap.size, 1, none⟩ = some (.int .u64 (lb 0 x)) ∧ w'.cell? ⟨w.heap.size, 2, none⟩ = some (.int .u64 (lb 1 x)) ∧ w'.cell? ⟨w.heap.size, 3, none⟩ = some (.int .u64 (lb 2 x)) ∧ w'.cell? ⟨w.heap.size, 4, none⟩ = some (.int .u64 (lb 3 x)))
    ((refine Row5.parts ?_; (repeat (first | (with_reducible assumption) | (with_reducible refine Row5.alloc ?_ _) | (with_reducible refine Row5.drew ?_) | (with_reducible refine Row5.drewN ?_ _))); done))
    (first | (go_at_call 10; (with_reducible refine (rof x HX.out _).mono ?_); rintro e wa ⟨sa, rfl, hra, hba⟩; have ba : Below w.heap.size w wa := btr (by repeat (first | (with_reducible exact BW2) | (with_reducible refine bal ?_ _) | (with_reducible refine Below.drew ?_) | (with_reducible refine bdn ?_ _))) hba; have Xa : Row5 wa w.heap.size (.bool g) (.int .u64 (lb 0 x)) (.int .u64 (lb 1 x)) (.int .u64 (lb 2 x)) (.int .u64 (lb 3 x)) := Row5.keep hba (by repeat (first | (with_reducible exact X2) | (with_reducible refine Row5.alloc ?_ _) | (with_reducible refine Row5.drew ?_) | (with_reducible refine Row5.drewN ?_ _)))) | (go_at_call 107; (with_reducible refine (K2.out _ _ (DR.keep (by repeat (first | (with_reducible exact Below.refl _ _) | (with_reducible refine bal ?_ _) | (with_reducible refine Below.drew ?_) | (with_reducible refine bdn ?_ _))) hra)).mono ?_); rintro e wb ⟨rfl, hbb⟩; have bb : Below w.heap.size w wb := btr (by repeat (first | (with_reducible exact ba) | (with_reducible refine bal ?_ _) | (with_reducible refine Below.drew ?_) | (with_reducible refine bdn ?_ _))) hbb; have Xb : Row5 wb w.heap.size (.bool g) (.int .u64 (lb 0 x)) (.int .u64 (lb 1 x)) (.int .u64 (lb 2 x)) (.int .u64 (lb 3 x)) := Row5.keep hbb (by repeat (first | (with_reducible exact Xa) | (with_reducible refine Row5.alloc ?_ _) | (with_reducible refine Row5.drew ?_) | (with_reducible refine Row5.drewN ?_ _)))))
  all_goals
    go_wp2
    exact bodyPost_ret (v := .tuple #[.int .u64 r, .bool true]) (by simp [results, Tryd.results66, go_sem]) rfl ⟨rfl, by repeat (first | (with_reducible exact bb) | (with_reducible refine bal ?_ _) | (with_reducible refine Below.drew ?_) | (with_reducible refine bdn ?_ _))⟩
set_option maxHeartbeats 2000000 in
set_option maxRecDepth 100000 in
theorem fwholes_no (g : Bool) (x : Nat) (w : World) (hT : Tb w)
    (k1 : ∀ W, Tb W → Calls Tryd.prog 64 #[I5 g x] W fun e w' => e = .returned (.tuple #[.int .u64 0, .bool false]) ∧ Below W.heap.size W w')
    (k2 : ∀ W, Tb W → Calls Tryd.prog 53 #[I5 g x] W fun e w' => e = .returned (.bool false) ∧ Below W.heap.size W w') :
    Calls Tryd.prog 9 #[I5 g x] w fun e w' => e = .returned (.bool true) ∧ Below w.heap.size w w' := by
  unfold I5 at *
  have HT := Lib.hid hT; clear hT; have K1 := Lib.hid k1; have K2 := Lib.hid k2; clear k1 k2
  go_enter Tryd.func9, Tryd.ntmps9
  go_wp2_with fail
  refine (K1.out _ (tb_on HT.out (by repeat (first | (with_reducible exact Below.refl _ _) | (with_reducible refine bal ?_ _) | (with_reducible refine Below.drew ?_) | (with_reducible refine bdn ?_ _))))).mono ?_
  rintro e w1 ⟨rfl, hb⟩
  have BW1 : Below w.heap.size w w1 := btr (by repeat (first | (with_reducible exact Below.refl _ _) | (with_reducible refine bal ?_ _) | (with_reducible refine Below.drew ?_) | (with_reducible refine bdn ?_ _))) hb
  have X1 : Row5 w1 w.heap.size (.bool g) (.int .u64 (lb 0 x)) (.int .u64 (lb 1 x)) (.int .u64 (lb 2 x)) (.int .u64 (lb 3 x)) := Row5.keep hb (by repeat (first | (with_reducible exact Row5.new _ _ _ _ _ _) | ((with_reducible refine Row5.new' _ ?_ _ _ _ _ _); (simp; done)) | (with_reducible refine Row5.alloc ?_ _) | (with_reducible refine Row5.drew ?_)))
  clear hb
  obtain ⟨Xc0, Xc1, Xc2, Xc3, Xc4⟩ := X1.parts
  obtain ⟨Xf0, Xf1, Xf2, Xf3, Xf4⟩ := X1.free
  go_wp2_with fail
  refine (K2.out _ (tb_on HT.out (by repeat (first | (with_reducible exact BW1) | (with_reducible refine bal ?_ _) | (with_reducible refine Below.drew ?_) | (with_reducible refine bdn ?_ _))))).mono ?_
  rintro e w2 ⟨rfl, hb⟩
  have BW2 : Below w.heap.size w w2 := btr (by repeat (first | (with_reducible exact BW1) | (with_reducible refine bal ?_ _) | (with_reducible refine Below.drew ?_) | (with_reducible refine bdn ?_ _))) hb
  have X2 : Row5 w2 w.heap.size (.bool g) (.int .u64 (lb 0 x)) (.int .u64 (lb 1 x)) (.int .u64 (lb 2 x)) (.int .u64 (lb 3 x)) := Row5.keep hb (by repeat (first | (with_reducible exact X1) | (with_reducible refine Row5.alloc ?_ _) | (with_reducible refine Row5.drew ?_)))
  clear X1
  clear BW1
  clear hb
  go_wp2_with fail
  refine (told3_true _ (tb_on HT.out (by repeat (first | (with_reducible exact BW2) | (with_reducible refine bal ?_ _) | (with_reducible refine Below.drew ?_) | (with_reducible refine bdn ?_ _))))).mono ?_
  rintro e w3 ⟨rfl, hb⟩
  have BW3 : Below w.heap.size w w3 := btr (by repeat (first | (with_reducible exact BW2) | (with_reducible refine bal ?_ _) | (with_reducible refine Below.drew ?_) | (with_reducible refine bdn ?_ _))) hb
  have X3 : Row5 w3 w.heap.size (.bool g) (.int .u64 (lb 0 x)) (.int .u64 (lb 1 x)) (.int .u64 (lb 2 x)) (.int .u64 (lb 3 x)) := Row5.keep hb (by repeat (first | (with_reducible exact X2) | (with_reducible refine Row5.alloc ?_ _) | (with_reducible refine Row5.drew ?_)))
  clear X2
  clear BW2
  clear hb
  go_wp2
  go_ret
  exact ⟨rfl, BW3⟩
set_option maxHeartbeats 2000000 in
set_option maxRecDepth 100000 in
theorem fwholes_yes (g : Bool) (x : Nat) (r : Int) (w : World) (hT : Tb w) (q1 : eq5 g (lb 0 x) (lb 1 x) (lb 2 x) (lb 3 x) g (lb 0 x) (lb 1 x) (lb 2 x) (lb 3 x) = true)
    (k1 : ∀ W, Tb W → Calls Tryd.prog 64 #[I5 g x] W fun e w' => e = .returned (.tuple #[.int .u64 r, .bool true]) ∧ Below W.heap.size W w')
    (k2 : ∀ W, Tb W → Calls Tryd.prog 53 #[I5 g x] W fun e w' => e = .returned (.bool true) ∧ Below W.heap.size W w')
    (k3 : ∀ W, Tb W → Calls Tryd.prog 65 #[.int .u64 r] W fun e w' => e = .returned (.tuple #[I5 g x, .bool true]) ∧ Below W.heap.size W w')
    (k4 : ∀ W, Calls Tryd.prog 66 #[I5 g x] W fun e w' => e = .returned (.tuple #[.int .u64 r, .bool true]) ∧ Below W.heap.size W w')
    (k5 : ∀ W, Tb W → Calls Tryd.prog 67 #[.int .u64 r] W fun e w' => e = .returned (.int .i64 0) ∧ Below W.heap.size W w')
    (k6 : ∀ W, Tb W → Calls Tryd.prog 68 #[.int .u64 r] W fun e w' => e = .returned (.bool false) ∧ Below W.heap.size W w') :
    Calls Tryd.prog 9 #[I5 g x] w fun e w' => e = .returned (.bool true) ∧ Below w.heap.size w w' := by
  unfold I5 at *
  have HT := Lib.hid hT; clear hT; have K1 := Lib.hid k1; have K2 := Lib.hid k2; have K3 := Lib.hid k3; have K4 := Lib.hid k4; have K5 := Lib.hid k5; have K6 := Lib.hid k6; clear k1 k2 k3 k4 k5 k6
  have Q1 := Lib.hid q1; clear q1
  have er : (r == r) = true := beq_self_eq_true r
  go_enter Tryd.func9, Tryd.ntmps9
  go_wp2_with fail
  refine (K1.out _ (tb_on HT.out (by repeat (first | (with_reducible exact Below.refl _ _) | (with_reducible refine bal ?_ _) | (with_reducible refine Below.drew ?_) | (with_reducible refine bdn ?_ _))))).mono ?_
  rintro e w1 ⟨rfl, hb⟩
  have BW1 : Below w.heap.size w w1 := btr (by repeat (first | (with_reducible exact Below.refl _ _) | (with_reducible refine bal ?_ _) | (with_reducible refine Below.drew ?_) | (with_reducible refine bdn ?_ _))) hb
  have X1 : Row5 w1 w.heap.size (.bool g) (.int .u64 (lb 0 x)) (.int .u64 (lb 1 x)) (.int .u64 (lb 2 x)) (.int .u64 (lb 3 x)) := Row5.keep hb (by repeat (first | (with_reducible exact Row5.new _ _ _ _ _ _) | ((with_reducible refine Row5.new' _ ?_ _ _ _ _ _); (simp; done)) | (with_reducible refine Row5.alloc ?_ _) | (with_reducible refine Row5.drew ?_)))
  clear hb
  obtain ⟨Xc0, Xc1, Xc2, Xc3, Xc4⟩ := X1.parts
  obtain ⟨Xf0, Xf1, Xf2, Xf3, Xf4⟩ := X1.free
  go_wp2_with fail
  refine (K2.out _ (tb_on HT.out (by repeat (first | (with_reducible exact BW1) | (with_reducible refine bal ?_ _) | (with_reducible refine Below.drew ?_) | (with_reducible refine bdn ?_ _))))).mono ?_
  rintro e w2 ⟨rfl, hb⟩
  have BW2 : Below w.heap.size w w2 := btr (by repeat (first | (with_reducible exact BW1) | (with_reducible refine bal ?_ _) | (with_reducible refine Below.drew ?_) | (with_reducible refine bdn ?_ _))) hb
  have X2 : Row5 w2 w.heap.size (.bool g) (.int .u64 (lb 0 x)) (.int .u64 (lb 1 x)) (.int .u64 (lb 2 x)) (.int .u64 (lb 3 x)) := Row5.keep hb (by repeat (first | (with_reducible exact X1) | (with_reducible refine Row5.alloc ?_ _) | (with_reducible refine Row5.drew ?_)))
  clear X1
  clear BW1
  clear hb
  go_wp2_with fail
  refine (K3.out _ (tb_on HT.out (by repeat (first | (with_reducible exact BW2) | (with_reducible refine bal ?_ _) | (with_reducible refine Below.drew ?_) | (with_reducible refine bdn ?_ _))))).mono ?_
  rintro e w3 ⟨rfl, hb⟩
  have BW3 : Below w.heap.size w w3 := btr (by repeat (first | (with_reducible exact BW2) | (with_reducible refine bal ?_ _) | (with_reducible refine Below.drew ?_) | (with_reducible refine bdn ?_ _))) hb
  have X3 : Row5 w3 w.heap.size (.bool g) (.int .u64 (lb 0 x)) (.int .u64 (lb 1 x)) (.int .u64 (lb 2 x)) (.int .u64 (lb 3 x)) := Row5.keep hb (by repeat (first | (with_reducible exact X2) | (with_reducible refine Row5.alloc ?_ _) | (with_reducible refine Row5.drew ?_)))
  clear X2
  clear BW2
  clear hb
  go_upto_region 7 with (fail)
  go_name_world w4 hw4
  have BW4 : Below w.heap.size w w4 := by rw [← hw4]; repeat (first | (with_reducible exact BW3) | (with_reducible refine bal ?_ _) | (with_reducible refine Below.drew ?_) | (with_reducible refine bdn ?_ _))
  have X4 : Row5 w4 w.heap.size (.bool g) (.int .u64 (lb 0 x)) (.int .u64 (lb 1 x)) (.int .u64 (lb 2 x)) (.int .u64 (lb 3 x)) := by rw [← hw4]; exact (by repeat (first | (with_reducible exact X3) | (with_reducible refine Row5.alloc ?_ _) | (with_reducible refine Row5.drew ?_)))
  have apB_X := X3.lt
  have apB_0 := (BW3).size
  have B4 : Row5 w4 w3.heap.size (.bool g) (.int .u64 (lb 0 x)) (.int .u64 (lb 1 x)) (.int .u64 (lb 2 x)) (.int .u64 (lb 3 x)) := by rw [← hw4]; exact (by repeat (first | (with_reducible exact Row5.new _ _ _ _ _ _) | ((with_reducible refine Row5.new' _ ?_ _ _ _ _ _); (simp; done)) | (with_reducible refine Row5.alloc ?_ _) | (with_reducible refine Row5.drew ?_)))
  clear X3
  clear BW3
  clear hw4
  obtain ⟨Xc0, Xc1, Xc2, Xc3, Xc4⟩ := X4.parts
  obtain ⟨Xf0, Xf1, Xf2, Xf3, Xf4⟩ := X4.free
  go_wp2_with fail
  refine (K4.out _).mono ?_
  rintro e w5 ⟨rfl, hb⟩
  have BW5 : Below w.heap.size w w5 := btr (by repeat (first | (with_reducible exact BW4) | (with_reducible refine bal ?_ _) | (with_reducible refine Below.drew ?_) | (with_reducible refine bdn ?_ _))) hb
  have X5 : Row5 w5 w.heap.size (.bool g) (.int .u64 (lb 0 x)) (.int .u64 (lb 1 x)) (.int .u64 (lb 2 x)) (.int .u64 (lb 3 x)) := Row5.keep hb (by repeat (first | (with_reducible exact X4) | (with_reducible refine Row5.alloc ?_ _) | (with_reducible refine Row5.drew ?_)))
  have B5 : Row5 w5 w3.heap.size (.bool g) (.int .u64 (lb 0 x)) (.int .u64 (lb 1 x)) (.int .u64 (lb 2 x)) (.int .u64 (lb 3 x)) := Row5.keep hb (by repeat (first | (with_reducible exact B4) | (with_reducible refine Row5.alloc ?_ _) | (with_reducible refine Row5.drew ?_)))
  clear X4 B4
  clear BW4
  clear hb
  go_wp2_with fail
  refine (told3_true _ (tb_on HT.out (by repeat (first | (with_reducible exact BW5) | (with_reducible refine bal ?_ _) | (with_reducible refine Below.drew ?_) | (with_reducible refine bdn ?_ _))))).mono ?_
  rintro e w6 ⟨rfl, hb⟩
  have BW6 : Below w.heap.size w w6 := btr (by repeat (first | (with_reducible exact BW5) | (with_reducible refine bal ?_ _) | (with_reducible refine Below.drew ?_) | (with_reducible refine bdn ?_ _))) hb
  have X6 : Row5 w6 w.heap.size (.bool g) (.int .u64 (lb 0 x)) (.int .u64 (lb 1 x)) (.int .u64 (lb 2 x)) (.int .u64 (lb 3 x)) := Row5.keep hb (by repeat (first | (with_reducible exact X5) | (with_reducible refine Row5.alloc ?_ _) | (with_reducible refine Row5.drew ?_)))
  have B6 : Row5 w6 w3.heap.size (.bool g) (.int .u64 (lb 0 x)) (.int .u64 (lb 1 x)) (.int .u64 (lb 2 x)) (.int .u64 (lb 3 x)) := Row5.keep hb (by repeat (first | (with_reducible exact B5) | (with_reducible refine Row5.alloc ?_ _) | (with_reducible refine Row5.drew ?_)))
  clear X5 B5
  clear BW5
  clear hb
  obtain ⟨Xc0, Xc1, Xc2, Xc3, Xc4⟩ := X6.parts
  obtain ⟨Xf0, Xf1, Xf2, Xf3, Xf4⟩ := X6.free
  obtain ⟨Bc0, Bc1, Bc2, Bc3, Bc4⟩ := B6.parts
  obtain ⟨Bf0, Bf1, Bf2, Bf3, Bf4⟩ := B6.free
  have q1 := Q1.out
  go_wp2_with fail
  refine (K5.out _ (tb_on HT.out (by repeat (first | (with_reducible exact BW6) | (with_reducible refine bal ?_ _) | (with_reducible refine Below.drew ?_) | (with_reducible refine bdn ?_ _))))).mono ?_
  rintro e w7 ⟨rfl, hb⟩
  have BW7 : Below w.heap.size w w7 := btr (by repeat (first | (with_reducible exact BW6) | (with_reducible refine bal ?_ _) | (with_reducible refine Below.drew ?_) | (with_reducible refine bdn ?_ _))) hb
  have X7 : Row5 w7 w.heap.size (.bool g) (.int .u64 (lb 0 x)) (.int .u64 (lb 1 x)) (.int .u64 (lb 2 x)) (.int .u64 (lb 3 x)) := Row5.keep hb (by repeat (first | (with_reducible exact X6) | (with_reducible refine Row5.alloc ?_ _) | (with_reducible refine Row5.drew ?_)))
  have B7 : Row5 w7 w3.heap.size (.bool g) (.int .u64 (lb 0 x)) (.int .u64 (lb 1 x)) (.int .u64 (lb 2 x)) (.int .u64 (lb 3 x)) := Row5.keep hb (by repeat (first | (with_reducible exact B6) | (with_reducible refine Row5.alloc ?_ _) | (with_reducible refine Row5.drew ?_)))
  clear X6 B6
  clear BW6
  clear hb
  clear q1
  go_wp2_with fail
  refine (K6.out _ (tb_on HT.out (by repeat (first | (with_reducible exact BW7) | (with_reducible refine bal ?_ _) | (with_reducible refine Below.drew ?_) | (with_reducible refine bdn ?_ _))))).mono ?_
  rintro e w8 ⟨rfl, hb⟩
  have BW8 : Below w.heap.size w w8 := btr (by repeat (first | (with_reducible exact BW7) | (with_reducible refine bal ?_ _) | (with_reducible refine Below.drew ?_) | (with_reducible refine bdn ?_ _))) hb
  have X8 : Row5 w8 w.heap.size (.bool g) (.int .u64 (lb 0 x)) (.int .u64 (lb 1 x)) (.int .u64 (lb 2 x)) (.int .u64 (lb 3 x)) := Row5.keep hb (by repeat (first | (with_reducible exact X7) | (with_reducible refine Row5.alloc ?_ _) | (with_reducible refine Row5.drew ?_)))
  have B8 : Row5 w8 w3.heap.size (.bool g) (.int .u64 (lb 0 x)) (.int .u64 (lb 1 x)) (.int .u64 (lb 2 x)) (.int .u64 (lb 3 x)) := Row5.keep hb (by repeat (first | (with_reducible exact B7) | (with_reducible refine Row5.alloc ?_ _) | (with_reducible refine Row5.drew ?_)))
  clear X7 B7
  clear BW7
  clear hb
  go_wp2
  go_ret
  exact ⟨rfl, BW8⟩
end Go.Proofs.YtngmdncidieclaaDoor
end
section
namespace Go.Proofs.YtngmdncidieclaaDoor
open Go.RowKit Go.Shelf Ieee

theorem same_under {f : FuncId} {l : Array Value} {w : World} {r : Ending} (h : Calls Tryd.prog f l w fun e w' => e = r ∧ w' = w) : Calls Tryd.prog f l w fun e w' => e = r ∧ Below w.heap.size w w' :=
  h.mono (fun _ _ ⟨a, b⟩ => ⟨a, by rw [b]; exact Below.refl _ _⟩)
theorem eq5_mine (c : Bool) (v : Nat) (h : v < 2 ^ 256) : eq5 c (lb 0 v) (lb 1 v) (lb 2 v) (lb 3 v) c (lb 0 v) (lb 1 v) (lb 2 v) (lb 3 v) = true := by
  rw [eq5_int c c v v h h]; exact decide_eq_true ⟨rfl, rfl⟩
theorem rmay_fine (g : Bool) (x : Nat) (hx : x < 2 ^ 256) (h : ¬ (g = true ∧ x = 0)) (w : World) :
    Calls Tryd.prog 29 #[I5 g x] w fun e w' => e = .returned (.bool true) ∧ Below w.heap.size w w' := by
  cases g with
  | false => exact rmay_pos _ _ _ _ w
  | true =>
    have hm := rmay_neg (lb 0 x) (lb 1 x) (lb 2 x) (lb 3 x) w
    rw [show eq4 (lb 0 x) (lb 1 x) (lb 2 x) (lb 3 x) 0 0 0 0 = false from (eq4_of x 0 hx (by decide)).trans (decide_eq_false (fun h0 => h ⟨rfl, h0⟩))] at hm
    exact hm
theorem odd_ctz {d k m : Nat} (hd : d = 2 * m + 1) (h : d * 2 ^ k < 18446744073709551616) : Lib.ctz 64 (d * 2 ^ k) = k := by
  have hp := Nat.two_pow_pos k
  have h0 : d * 2 ^ k ≠ 0 := by
    have := Nat.mul_pos (show 0 < d by omega) hp
    omega
  obtain ⟨n, hn, _⟩ := ctz_word h0 h
  have hb : d * 2 ^ k < 2 ^ 256 := Nat.lt_trans h (by decide)
  have a := tz_unique hb hn
  have b := tz_unique (x := d * 2 ^ k) (k := k) (m := m) hb (by rw [← hd, Nat.mul_comm])
  omega
theorem nr_odd {d m : Nat} (hd : d = 2 * m + 1) {t : Nat} (hl : d.log2 ≤ 52) (ht : t + d.log2 ≤ 255) :
    nr d (t : Int) < INF ∧ dg (nr d (t : Int)) = d * 2 ^ (52 - d.log2) ∧ pw (nr d (t : Int)) = (t : Int) ∧ od (nr d (t : Int)) = d := by
  have h0 : d ≠ 0 := by omega
  obtain ⟨s1, s2, _, s4, s5⟩ := nr_spec (d := d) (p := (t : Int)) h0 hl (by omega) (by omega)
  have hb := top_bounds h0 hl
  rw [show (2 : Nat) ^ (52 + 1) = 9007199254740992 from by decide] at hb
  have hdg : dg (nr d (t : Int)) = d * 2 ^ (52 - d.log2) := by
    rw [← s2]
    unfold dg mg
    rw [dbl_binade, if_neg (by omega), if_neg (by omega)]
    omega
  have hc : Lib.ctz 64 (d * 2 ^ (52 - d.log2)) = 52 - d.log2 := odd_ctz hd (by omega)
  have hne : d * 2 ^ (52 - d.log2) ≠ 0 := by
    have := Nat.mul_pos (show 0 < d by omega) (Nat.two_pow_pos (52 - d.log2))
    omega
  refine ⟨s1, hdg, ?_, ?_⟩
  · unfold pw
    rw [hdg, if_neg hne, hc, s5]
    omega
  · unfold od
    rw [hdg, if_neg hne, hc, Nat.mul_div_cancel _ (Nat.two_pow_pos _)]
theorem whl_odd {d m : Nat} (hd : d = 2 * m + 1) {t s : Nat} (hl : d.log2 ≤ 52) (ht : t + d.log2 ≤ 255) (hn : d * 2 ^ t < 2 ^ 256) :
    whl (s * 9223372036854775808 + nr d (t : Int)) = some (d * 2 ^ t) := by
  obtain ⟨a, b, c, e⟩ := nr_odd hd hl ht
  have a' : nr d (t : Int) < 9223372036854775808 := Nat.lt_trans a (by decide)
  rw [whl_rg, (word_parts a').1]
  unfold whl
  rw [show rg (nr d (t : Int)) = nr d (t : Int) from by unfold rg; exact Nat.mod_eq_of_lt a', c, e, if_pos ⟨a, by omega, by rw [Int.toNat_natCast]; exact hn⟩, Int.toNat_natCast]
theorem cls_whole {b n : Nat} (h : whl b = some n) : cls b = 0 := by
  have hf : rg b < INF := by
    unfold whl at h
    split at h
    · rename_i c; exact c.1
    · cases h
  unfold cls
  rw [if_neg (by omega), if_neg (by omega), h]
  rfl
theorem blen_log {d : Nat} (h : d ≠ 0) : blen d = d.log2 + 1 :=
  blen_unique (by omega) (by rw [Nat.add_sub_cancel]; exact Nat.log2_self_le h) Nat.lt_log2_self
theorem blen_shl {d t : Nat} (h : d ≠ 0) : blen (d * 2 ^ t) = d.log2 + 1 + t := by
  refine blen_unique (by omega) ?_ ?_
  · rw [show d.log2 + 1 + t - 1 = d.log2 + t from by omega, Nat.pow_add]
    exact Nat.mul_le_mul_right _ (Nat.log2_self_le h)
  · rw [Nat.pow_add]
    exact Nat.mul_lt_mul_of_pos_right Nat.lt_log2_self (Nat.two_pow_pos t)
/-- What an exact number is made of. -/
theorem exq_parts {x : Nat} (hx : x < 2 ^ 256) (h0 : x ≠ 0) (hq : exq x = true) : ∃ d m t, d = 2 * m + 1 ∧ x = d * 2 ^ t ∧ t = tz x ∧ d.log2 ≤ 52 ∧ t + d.log2 ≤ 255 ∧ blen x = d.log2 + 1 + t ∧ x / 2 ^ t = d := by
  obtain ⟨⟨m, hm⟩, ht⟩ := tz_spec h0 hx
  have hx2 : x = (2 * m + 1) * 2 ^ tz x := by rw [Nat.mul_comm]; exact hm
  have hb : blen x = (2 * m + 1).log2 + 1 + tz x := by
    have := blen_shl (d := 2 * m + 1) (t := tz x) (by omega)
    rw [← hx2] at this
    exact this
  have hL := blen_le hx
  unfold exq at hq
  have hq := of_decide_eq_true hq
  refine ⟨2 * m + 1, m, tz x, rfl, hx2, rfl, by omega, by omega, hb, ?_⟩
  have : (2 * m + 1) * 2 ^ tz x / 2 ^ tz x = 2 * m + 1 := Nat.mul_div_cancel _ (Nat.two_pow_pos _)
  rw [← hx2] at this
  exact this
theorem sum_bits {s f r : Nat} (hs : s < 2) (hf : f < 2048) (hr : r < 4503599627370496) :
    bits .or .u64 (bits .or .u64 ((s * 9223372036854775808 : Nat) : Int) ((f * 4503599627370496 : Nat) : Int)) (r : Int) = ((s * 9223372036854775808 + f * 4503599627370496 + r : Nat) : Int) := by
  rw [u64_or_nat _ _ (by omega) (by omega)]
  have e1 : s * 9223372036854775808 ||| f * 4503599627370496 = s * 9223372036854775808 + f * 4503599627370496 := by
    have h := Nat.two_pow_add_eq_or_of_lt (i := 63) (b := f * 4503599627370496) (by omega) s
    rw [show (2 : Nat) ^ 63 = 9223372036854775808 from by decide] at h
    rw [Nat.mul_comm s, h]
  rw [e1, u64_or_nat _ _ (by omega) (by omega)]
  have e2 : (s * 9223372036854775808 + f * 4503599627370496) ||| r = s * 9223372036854775808 + f * 4503599627370496 + r := by
    have h := Nat.two_pow_add_eq_or_of_lt (i := 52) (b := r) (by omega) (s * 2048 + f)
    rw [show (2 : Nat) ^ 52 = 4503599627370496 from by decide] at h
    rw [show s * 9223372036854775808 + f * 4503599627370496 = 4503599627370496 * (s * 2048 + f) from by omega, h]
  rw [e2]
theorem mask_bits {r : Nat} (h : r < 18446744073709551616) : bits .and .u64 (r : Int) 4503599627370495 = ((r % 4503599627370496 : Nat) : Int) := by
  have := u64_and_nat r 4503599627370495 h (by decide)
  rw [show ((4503599627370495 : Nat) : Int) = 4503599627370495 from rfl] at this
  rw [this, show (4503599627370495 : Nat) = 2 ^ 52 - 1 from by decide, Nat.and_two_pow_sub_one_eq_mod]
/-- pack, of whole numbers that are exact. -/
theorem rpack_whole (g : Bool) {x d m t : Nat} (hx : x < 2 ^ 256) (hd : d = 2 * m + 1) (e : x = d * 2 ^ t) (hl : d.log2 ≤ 52) (ht : t + d.log2 ≤ 255) (hb : blen x = d.log2 + 1 + t) {s : Value} {w : World} (hs : DR w s x) :
    Calls Tryd.prog 107 #[.bool g, s, .int .i64 0, .int .i64 53, .int .i64 11] w fun e w' => e = .returned (.tuple #[.int .u64 ((g.toNat * 9223372036854775808 + nr d (t : Int) : Nat) : Int), .bool true]) ∧ Below w.heap.size w w' := by
  have lx : (digs x).length ≤ 1000 := Nat.le_trans (digs_len.2 (show x < 2 ^ (32 * 8) from hx)) (by decide)
  have h0 : d ≠ 0 := by omega
  have hdx : d ≤ x := by rw [e]; exact Nat.le_mul_of_pos_right _ (Nat.two_pow_pos t)
  have ld : (digs d).length ≤ 1000 := Nat.le_trans (digs_len.2 (show d < 2 ^ (32 * 8) from Nat.lt_of_le_of_lt hdx hx)) (by decide)
  have hdiv : x / 2 ^ t = d := by rw [e]; exact Nat.mul_div_cancel _ (Nat.two_pow_pos _)
  have hM := top_bounds h0 hl
  rw [show (2 : Nat) ^ 52 = 4503599627370496 from by decide, show (2 : Nat) ^ (52 + 1) = 9007199254740992 from by decide] at hM
  have hd53 : d < 9007199254740992 := by
    have : d * 1 ≤ d * 2 ^ (52 - d.log2) := Nat.mul_le_mul_left _ (Nat.two_pow_pos _)
    omega
  refine pack53_norm g s x d t (blen d) (blen x) 0 _ w hs (by decide) (by decide) (by omega) (by rw [beq_eq_false_iff_ne]; omega) (by rw [blen_log h0]; omega) (by rw [blen_log h0]; omega) (by rw [blen_log h0]; omega) (by rw [blen_log h0]; omega) (by omega)
    (fun s' W h => same_under (rlen h lx)) (fun s' W h => same_under (rtrail h lx (k := t) (m := m) (by rw [e, hd, Nat.mul_comm]) (by omega))) (fun s' W h => ?_) (fun s' W h => same_under (rlen h ld)) (fun s' W h => ?_) ?_
  · by_cases t0 : t = 0
    · subst t0
      have := rshift h lx 0 (by decide) (by decide)
      unfold shv at this
      rw [if_pos (by decide)] at this
      have e2 : x * 2 ^ (0 : Int).toNat = d := by rw [e]; simp
      rw [e2] at this
      exact this
    · have := rshift h lx (-(t : Int)) (by omega) (by omega)
      unfold shv at this
      rw [if_neg (by omega), show (-(-(t : Int))).toNat = t from by omega, hdiv] at this
      exact this
  · have := rnat h
    rw [if_pos (Nat.lt_of_le_of_lt hdx hx)] at this
    exact this
  · have l0 : lb 0 d = (d : Int) := by rw [lb0]; omega
    have hbl : 53 - blen d = 52 - d.log2 := by rw [blen_log h0]; omega
    rw [l0, hbl]
    have hw : IntKind.u64.wrap ((d : Int) * 2 ^ (52 - d.log2)) = ((d * 2 ^ (52 - d.log2) : Nat) : Int) := by
      rw [show (d : Int) * 2 ^ (52 - d.log2) = ((d * 2 ^ (52 - d.log2) : Nat) : Int) from by rw [Int.natCast_mul, Int.natCast_pow]; rfl]
      generalize d * 2 ^ (52 - d.log2) = M at hM
      rw [IntKind.wrap_u64]; omega
    rw [hw, mask_bits (by omega)]
    have hf : (0 + (t : Int) + (blen d : Int) - 1 + 1023) * 4503599627370496 = (((t + d.log2 + 1023) * 4503599627370496 : Nat) : Int) := by
      rw [blen_log h0]; omega
    have hsg : (if g = true then (9223372036854775808 : Int) else 0) = ((g.toNat * 9223372036854775808 : Nat) : Int) := by cases g <;> rfl
    rw [hf, hsg, sum_bits (by cases g <;> decide) (by omega) (by omega)]
    unfold nr
    rw [show ((t : Int) + (d.log2 : Nat) + 1022).toNat = t + d.log2 + 1022 from by omega]
    generalize d * 2 ^ (52 - d.log2) = M at hM
    exact congrArg (fun n : Nat => (n : Int)) (by omega)
/-- A float's word, of a whole number that is exact. -/
def wwd (g : Bool) (x : Nat) : Nat := if x = 0 then 0 else g.toNat * 9223372036854775808 + nr (x / 2 ^ tz x) (tz x : Int)
theorem ofw_z (z : Int) (hz : z.natAbs < 2 ^ 256) (hq : exq z.natAbs = true) (w : World) (hT : Tb w) :
    Calls Tryd.prog 64 #[Iz z] w fun e w' => e = .returned (.tuple #[.int .u64 (wwd (decide (z < 0)) z.natAbs : Nat), .bool true]) ∧ Below w.heap.size w w' := by
  have k1 : ∀ W, Tb W → Calls Tryd.prog 53 #[I5 (decide (z < 0)) z.natAbs] W fun e w' => e = .returned (.bool true) ∧ Below W.heap.size W w' := fun W hW => by
    have := exact_z z hz W hW
    rw [hq] at this
    exact this
  have k2 : ∀ W, Tb W → Calls Tryd.prog 19 #[N4 z.natAbs] W fun e w' => e = .returned (.int .i64 (tz z.natAbs : Int)) ∧ Below W.heap.size W w' := fun W hW => (trail_one _ hz W hW).mono (fun e w' ⟨he, o, ho⟩ => ⟨he, by rw [ho]; exact bal (Below.refl _ _) _⟩)
  have htl := tz_le hz
  have k3 := fun W => shr_any z.natAbs hz (tz z.natAbs : Int) (by omega) W
  rw [Int.toNat_natCast] at k3
  have hlow : ∀ d, d < 18446744073709551616 → ∀ W, Calls Tryd.prog 15 #[N4 d] W fun e w' => e = .returned (.tuple #[.int .u64 (d : Int), .bool true]) ∧ Below W.heap.size W w' := fun d hd W => by
    have := low_any d (Nat.lt_trans hd (by decide)) W
    rw [if_pos hd] at this
    exact this
  show Calls Tryd.prog 64 #[I5 (decide (z < 0)) z.natAbs] w _
  by_cases h0 : z.natAbs = 0
  · have hz0 : z = 0 := by omega
    subst hz0
    have := ofwhole_pos 0 0 256 0 0 w hT k1 k2 k3 (hlow 0 (by decide)) (fun W => same_under (scaled_zero 256 W))
    exact this
  · obtain ⟨d, m, t, hd, e, et, hl, ht, hb, hdiv⟩ := exq_parts hz h0 hq
    have hd0 : d ≠ 0 := by omega
    have hM := top_bounds hd0 hl
    rw [show (2 : Nat) ^ (52 + 1) = 9007199254740992 from by decide] at hM
    have hd53 : d < 9007199254740992 := by
      have : d * 1 ≤ d * 2 ^ (52 - d.log2) := Nat.mul_le_mul_left _ (Nat.two_pow_pos _)
      omega
    have hw : wwd (decide (z < 0)) z.natAbs = (decide (z < 0)).toNat * 9223372036854775808 + nr d (t : Int) := by
      unfold wwd
      rw [if_neg h0, ← et, hdiv]
    rw [hw]
    rw [← et] at k2 k3
    rw [hdiv] at k3
    have k5 := fun W => same_under (scaled_any d (t : Int) hd0 hl (by omega) (by omega) W)
    have hnr := (nr_odd hd hl ht).1
    have hI : INF = 9218868437227405312 := rfl
    cases hg : decide (z < 0) with
    | false =>
      rw [hg] at k1
      have := ofwhole_pos z.natAbs d (t : Int) d (nr d (t : Int) : Nat) w hT k1 k2 k3 (hlow d (by omega)) k5
      simp only [Bool.toNat_false, Nat.zero_mul, Nat.zero_add]
      exact this
    | true =>
      rw [hg] at k1
      refine ofwhole_neg z.natAbs d (t : Int) d (nr d (t : Int) : Nat) _ ?_ w hT k1 k2 k3 (hlow d (by omega)) k5
      have := u64_or_nat 9223372036854775808 (nr d (t : Int)) (by decide) (by omega)
      have h2 := Nat.two_pow_add_eq_or_of_lt (i := 63) (b := nr d (t : Int)) (by omega) 1
      rw [show (2 : Nat) ^ 63 = 9223372036854775808 from by decide, Nat.mul_one] at h2
      rw [← h2] at this
      simp only [Bool.toNat_true, Nat.one_mul]
      exact this
theorem fwholes_any (g : Bool) (x : Nat) (hx : x < 2 ^ 256) (w : World) (hT : Tb w) :
    Calls Tryd.prog 9 #[I5 g x] w fun e w' => e = .returned (.bool true) ∧ Below w.heap.size w w' := by
  rcases int_or g x with ⟨z, ez, nz⟩ | ⟨rfl, rfl⟩
  · have hz : z.natAbs < 2 ^ 256 := by omega
    rw [ez]
    cases hq : exq z.natAbs with
    | false =>
      have k2 : ∀ W, Tb W → Calls Tryd.prog 53 #[I5 (decide (z < 0)) z.natAbs] W fun e w' => e = .returned (.bool false) ∧ Below W.heap.size W w' := fun W hW => by
        have := exact_z z hz W hW
        rw [hq] at this
        exact this
      exact fwholes_no _ _ w hT (fun W hW => ofwhole_no _ _ W hW k2) k2
    | true =>
      have k2 : ∀ W, Tb W → Calls Tryd.prog 53 #[I5 (decide (z < 0)) z.natAbs] W fun e w' => e = .returned (.bool true) ∧ Below W.heap.size W w' := fun W hW => by
        have := exact_z z hz W hW
        rw [hq] at this
        exact this
      obtain ⟨r, hr⟩ : ∃ r, r = wwd (decide (z < 0)) z.natAbs := ⟨_, rfl⟩
      have k1 := fun W hW => ofw_z z hz hq W hW
      rw [← hr] at k1
      have hmay : ¬ (decide (z < 0) = true ∧ z.natAbs = 0) := by
        rintro ⟨h1, h2⟩
        have := of_decide_eq_true h1
        omega
      have km := fun W => rmay_fine (decide (z < 0)) z.natAbs hz hmay W
      have key : whl r = some z.natAbs ∧ r < 18446744073709551616 ∧ (if sg r = 1 then -((z.natAbs : Nat) : Int) else (z.natAbs : Int)) = z ∧ ∀ s' W, DR W s' z.natAbs → Calls Tryd.prog 107 #[.bool (decide (z < 0)), s', .int .i64 0, .int .i64 53, .int .i64 11] W fun e w' => e = .returned (.tuple #[.int .u64 (r : Int), .bool true]) ∧ Below W.heap.size W w' := by
        by_cases h0 : z.natAbs = 0
        · have hz0 : z = 0 := by omega
          subst hz0
          have hr0 : r = 0 := by rw [hr]; rfl
          subst hr0
          refine ⟨by decide +kernel, by decide, by decide, fun s' W h => ?_⟩
          have := pack53_zero false s' 0 0 W h (fun s2 W2 h2 => by have := same_under (rlen h2 (by rw [digs_zero]; exact Nat.zero_le _)); exact this)
          exact this
        · obtain ⟨d, m, t, hd, e, et, hl, ht, hb, hdiv⟩ := exq_parts hz h0 hq
          have hw : r = (decide (z < 0)).toNat * 9223372036854775808 + nr d (t : Int) := by
            rw [hr]
            unfold wwd
            rw [if_neg h0, ← et, hdiv]
          have hnr := (nr_odd hd hl ht).1
          have hI : INF = 9218868437227405312 := rfl
          have hwp := word_parts (n := (decide (z < 0)).toNat) (r := nr d (t : Int)) (by omega)
          rw [← hw] at hwp
          refine ⟨?_, ?_, ?_, fun s' W h => ?_⟩
          · rw [hw, whl_odd hd hl ht (by rw [← e]; exact hz), ← e]
          · rw [hw]; cases decide (z < 0) <;> simp only [Bool.toNat_true, Bool.toNat_false] <;> omega
          · rw [hwp.2]
            by_cases hn : z < 0
            · rw [decide_eq_true hn, if_pos (show true.toNat = 1 from rfl)]; omega
            · rw [decide_eq_false hn, if_neg (by decide)]; omega
          · rw [hw]; exact rpack_whole _ hz hd e hl ht hb h
      obtain ⟨hw, hr64, hsgn, hpack⟩ := key
      have hc := cls_whole hw
      refine fwholes_yes _ _ (r : Int) w hT (eq5_mine _ _ hz) k1 k2 (fun W hW => ?_) (fun W => rofwhole_core _ _ _ hz W (fun W => ?_) hpack) (fun W hW => ?_) (fun W hW => ?_)
      · have := whole_any r hr64 W hW
        unfold WEnd at this
        rw [hw] at this
        simp only at this
        rw [hsgn] at this
        exact this
      · have lx : (digs z.natAbs).length ≤ 1000 := Nat.le_trans (digs_len.2 (show z.natAbs < 2 ^ (32 * 8) from hz)) (by decide)
        by_cases h0 : z.natAbs = 0
        · have hz0 : z = 0 := by omega
          subst hz0
          exact rexact_zero _ _ hz W km (fun s' W h => same_under (rlen h lx))
        · obtain ⟨⟨m, hm⟩, ht⟩ := tz_spec h0 hz
          have hL := blen_le hz
          have hbs := blen_spec h0
          unfold exq at hq
          have hq := of_decide_eq_true hq
          exact rexact_some _ _ hz (blen z.natAbs) (tz z.natAbs) (by rw [beq_eq_false_iff_ne]; omega) (by omega) (by omega) hq W km (fun s' W h => same_under (rlen h lx)) (fun s' W h => same_under (rtrail h lx hm (by omega)))
      · have := class_any r hr64 W hW
        rw [hc] at this
        exact this
      · have := fmay_any r hr64 W hW
        unfold mayF at this
        rw [hc] at this
        exact this
  · exact fwholes_no _ _ w hT (fun W hW => ofwhole_no _ _ W hW (fun W _ => exact_bad W)) (fun W _ => exact_bad W)
end Go.Proofs.YtngmdncidieclaaDoor
end
