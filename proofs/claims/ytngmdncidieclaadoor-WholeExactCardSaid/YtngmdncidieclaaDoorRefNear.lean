/-
  The reference's Exact, odd, Near: the contracts, for all whole numbers of a sign and four words.
-/
import Derived.Test.YtngmdncidieclaaDoorRefMid
import Derived.Test.YtngmdncidieclaaDoorRefShr
import Derived.Test.YtngmdncidieclaaDoorRefPow
import Derived.Test.YtngmdncidieclaaDoorWholeJ
namespace Go.Proofs.YtngmdncidieclaaDoor
open Go.RowKit Go.Shelf
attribute [local go_sem ↓] eql_nat neq_nat eql_int5 neq_int5

theorem ten_at (W : World) (n z : Nat) (Z : Int) (hn : n = W.heap.size) (hz0 : z ≠ 0) (hz : z < 4294967296) (e : Z = (z : Int)) : DR (W.alloc (.cells #[.int .u32 Z] 63)) (.slice (some ⟨n, 0, none⟩) 1 1) z := by
  subst hn; exact ten_new W z hz0 hz Z e
theorem digs_eight {x : Nat} (h : x < 2 ^ 256) : (digs x).length ≤ 1000 := Nat.le_trans (digs_len.2 (show x < 2 ^ (32 * 8) from h)) (by decide)
theorem rcmp_is {x y : Nat} {c : Int} (hc : rcv x y = c) (lx : (digs x).length ≤ 1000) {s t : Value} {w : World} (hx : DR w s x) (hy : DR w t y) :
    Calls Tryd.prog 89 #[s, t] w fun e w' => e = .returned (.int .i64 c) ∧ Below w.heap.size w w' := by
  have := rcmp hx hy lx
  rw [hc] at this
  exact this
set_option maxHeartbeats 1000000 in
set_option maxRecDepth 100000 in
theorem rex_zero (g : Bool) (x : Nat) (hx : x < 2 ^ 256) (w : World)
    (k1 : ∀ W, Calls Tryd.prog 29 #[I5 g x] W fun e w' => e = .returned (.bool true) ∧ Below W.heap.size W w')
    (k2 : ∀ s' W, DR W s' x → Calls Tryd.prog 12 #[s'] W fun e w' => e = .returned (.int .i64 0) ∧ Below W.heap.size W w') :
    Calls Tryd.prog 54 #[I5 g x] w fun e w' => e = .returned (.bool true) ∧ Below w.heap.size w w' := by
  unfold I5 at *
  have HX := Lib.hid hx; have K1 := Lib.hid k1; have K2 := Lib.hid k2; clear hx k1 k2
  go_enter Tryd.func54, Tryd.ntmps54
  go_wp2_with fail
  refine (rof x HX.out _).mono ?_
  rintro e w1 ⟨s1, rfl, hr, hb⟩
  have hbX : Below w.heap.size w w1 := btr (by repeat (first | (with_reducible exact Below.refl _ _) | (with_reducible refine bal ?_ _) | (with_reducible refine Below.drew ?_) | (with_reducible refine bdn ?_ _))) hb
  clear hbX
  have DX1 : DR w1 s1 x := hr
  clear hr
  have BW1 : Below w.heap.size w w1 := btr (by repeat (first | (with_reducible exact Below.refl _ _) | (with_reducible refine bal ?_ _) | (with_reducible refine Below.drew ?_) | (with_reducible refine bdn ?_ _))) hb
  have X1 : Row5 w1 w.heap.size (.bool g) (.int .u64 (lb 0 x)) (.int .u64 (lb 1 x)) (.int .u64 (lb 2 x)) (.int .u64 (lb 3 x)) := Row5.keep hb (by repeat (first | (with_reducible exact Row5.new _ _ _ _ _ _) | ((with_reducible refine Row5.new' _ ?_ _ _ _ _ _); (simp; done)) | (with_reducible refine Row5.alloc ?_ _) | (with_reducible refine Row5.drew ?_)))
  clear hb
  obtain ⟨Xc0, Xc1, Xc2, Xc3, Xc4⟩ := X1.parts
  obtain ⟨Xf0, Xf1, Xf2, Xf3, Xf4⟩ := X1.free
  go_wp2_with fail
  refine (K1.out _).mono ?_
  rintro e w2 ⟨rfl, hb⟩
  have hbX : Below w1.heap.size w1 w2 := btr (by repeat (first | (with_reducible exact Below.refl _ _) | (with_reducible refine bal ?_ _) | (with_reducible refine Below.drew ?_) | (with_reducible refine bdn ?_ _))) hb
  have DX2 : DR w2 s1 x := DR.keep hbX DX1
  clear DX1
  clear hbX
  have BW2 : Below w.heap.size w w2 := btr (by repeat (first | (with_reducible exact BW1) | (with_reducible refine bal ?_ _) | (with_reducible refine Below.drew ?_) | (with_reducible refine bdn ?_ _))) hb
  have X2 : Row5 w2 w.heap.size (.bool g) (.int .u64 (lb 0 x)) (.int .u64 (lb 1 x)) (.int .u64 (lb 2 x)) (.int .u64 (lb 3 x)) := Row5.keep hb (by repeat (first | (with_reducible exact X1) | (with_reducible refine Row5.alloc ?_ _) | (with_reducible refine Row5.drew ?_)))
  clear X1
  clear BW1
  clear hb
  go_wp2_with fail
  refine (K2.out _ _ (DR.keep (by repeat (first | (with_reducible exact Below.refl _ _) | (with_reducible refine bal ?_ _) | (with_reducible refine Below.drew ?_) | (with_reducible refine bdn ?_ _))) DX2)).mono ?_
  rintro e w3 ⟨rfl, hb⟩
  have hbX : Below w2.heap.size w2 w3 := btr (by repeat (first | (with_reducible exact Below.refl _ _) | (with_reducible refine bal ?_ _) | (with_reducible refine Below.drew ?_) | (with_reducible refine bdn ?_ _))) hb
  have DX3 : DR w3 s1 x := DR.keep hbX DX2
  clear DX2
  clear hbX
  have BW3 : Below w.heap.size w w3 := btr (by repeat (first | (with_reducible exact BW2) | (with_reducible refine bal ?_ _) | (with_reducible refine Below.drew ?_) | (with_reducible refine bdn ?_ _))) hb
  have X3 : Row5 w3 w.heap.size (.bool g) (.int .u64 (lb 0 x)) (.int .u64 (lb 1 x)) (.int .u64 (lb 2 x)) (.int .u64 (lb 3 x)) := Row5.keep hb (by repeat (first | (with_reducible exact X2) | (with_reducible refine Row5.alloc ?_ _) | (with_reducible refine Row5.drew ?_)))
  clear X2
  clear BW2
  clear hb
  go_wp2
  go_ret
  exact ⟨rfl, BW3⟩
set_option maxHeartbeats 1000000 in
set_option maxRecDepth 100000 in
theorem rex_some (g : Bool) (x : Nat) (hx : x < 2 ^ 256) (L t : Nat) (hL : ((L : Int) == 0) = false) (hL2 : L ≤ 2000) (ht : t ≤ 2000) (hq : (L : Int) - t ≤ 53) (w : World)
    (k1 : ∀ W, Calls Tryd.prog 29 #[I5 g x] W fun e w' => e = .returned (.bool true) ∧ Below W.heap.size W w')
    (k2 : ∀ s' W, DR W s' x → Calls Tryd.prog 12 #[s'] W fun e w' => e = .returned (.int .i64 (L : Int)) ∧ Below W.heap.size W w')
    (k3 : ∀ s' W, DR W s' x → Calls Tryd.prog 20 #[s'] W fun e w' => e = .returned (.int .i64 (t : Int)) ∧ Below W.heap.size W w') :
    Calls Tryd.prog 54 #[I5 g x] w fun e w' => e = .returned (.bool true) ∧ Below w.heap.size w w' := by
  unfold I5 at *
  have HX := Lib.hid hx; have K1 := Lib.hid k1; have K2 := Lib.hid k2; have K3 := Lib.hid k3; clear hx k1 k2 k3
  go_enter Tryd.func54, Tryd.ntmps54
  go_wp2_with fail
  refine (rof x HX.out _).mono ?_
  rintro e w1 ⟨s1, rfl, hr, hb⟩
  have hbX : Below w.heap.size w w1 := btr (by repeat (first | (with_reducible exact Below.refl _ _) | (with_reducible refine bal ?_ _) | (with_reducible refine Below.drew ?_) | (with_reducible refine bdn ?_ _))) hb
  clear hbX
  have DX1 : DR w1 s1 x := hr
  clear hr
  have BW1 : Below w.heap.size w w1 := btr (by repeat (first | (with_reducible exact Below.refl _ _) | (with_reducible refine bal ?_ _) | (with_reducible refine Below.drew ?_) | (with_reducible refine bdn ?_ _))) hb
  have X1 : Row5 w1 w.heap.size (.bool g) (.int .u64 (lb 0 x)) (.int .u64 (lb 1 x)) (.int .u64 (lb 2 x)) (.int .u64 (lb 3 x)) := Row5.keep hb (by repeat (first | (with_reducible exact Row5.new _ _ _ _ _ _) | ((with_reducible refine Row5.new' _ ?_ _ _ _ _ _); (simp; done)) | (with_reducible refine Row5.alloc ?_ _) | (with_reducible refine Row5.drew ?_)))
  clear hb
  obtain ⟨Xc0, Xc1, Xc2, Xc3, Xc4⟩ := X1.parts
  obtain ⟨Xf0, Xf1, Xf2, Xf3, Xf4⟩ := X1.free
  go_wp2_with fail
  refine (K1.out _).mono ?_
  rintro e w2 ⟨rfl, hb⟩
  have hbX : Below w1.heap.size w1 w2 := btr (by repeat (first | (with_reducible exact Below.refl _ _) | (with_reducible refine bal ?_ _) | (with_reducible refine Below.drew ?_) | (with_reducible refine bdn ?_ _))) hb
  have DX2 : DR w2 s1 x := DR.keep hbX DX1
  clear DX1
  clear hbX
  have BW2 : Below w.heap.size w w2 := btr (by repeat (first | (with_reducible exact BW1) | (with_reducible refine bal ?_ _) | (with_reducible refine Below.drew ?_) | (with_reducible refine bdn ?_ _))) hb
  have X2 : Row5 w2 w.heap.size (.bool g) (.int .u64 (lb 0 x)) (.int .u64 (lb 1 x)) (.int .u64 (lb 2 x)) (.int .u64 (lb 3 x)) := Row5.keep hb (by repeat (first | (with_reducible exact X1) | (with_reducible refine Row5.alloc ?_ _) | (with_reducible refine Row5.drew ?_)))
  clear X1
  clear BW1
  clear hb
  go_wp2_with fail
  refine (K2.out _ _ (DR.keep (by repeat (first | (with_reducible exact Below.refl _ _) | (with_reducible refine bal ?_ _) | (with_reducible refine Below.drew ?_) | (with_reducible refine bdn ?_ _))) DX2)).mono ?_
  rintro e w3 ⟨rfl, hb⟩
  have hbX : Below w2.heap.size w2 w3 := btr (by repeat (first | (with_reducible exact Below.refl _ _) | (with_reducible refine bal ?_ _) | (with_reducible refine Below.drew ?_) | (with_reducible refine bdn ?_ _))) hb
  have DX3 : DR w3 s1 x := DR.keep hbX DX2
  clear DX2
  clear hbX
  have BW3 : Below w.heap.size w w3 := btr (by repeat (first | (with_reducible exact BW2) | (with_reducible refine bal ?_ _) | (with_reducible refine Below.drew ?_) | (with_reducible refine bdn ?_ _))) hb
  have X3 : Row5 w3 w.heap.size (.bool g) (.int .u64 (lb 0 x)) (.int .u64 (lb 1 x)) (.int .u64 (lb 2 x)) (.int .u64 (lb 3 x)) := Row5.keep hb (by repeat (first | (with_reducible exact X2) | (with_reducible refine Row5.alloc ?_ _) | (with_reducible refine Row5.drew ?_)))
  clear X2
  clear BW2
  clear hb
  go_wp2_with fail
  refine (K2.out _ _ (DR.keep (by repeat (first | (with_reducible exact Below.refl _ _) | (with_reducible refine bal ?_ _) | (with_reducible refine Below.drew ?_) | (with_reducible refine bdn ?_ _))) DX3)).mono ?_
  rintro e w4 ⟨rfl, hb⟩
  have hbX : Below w3.heap.size w3 w4 := btr (by repeat (first | (with_reducible exact Below.refl _ _) | (with_reducible refine bal ?_ _) | (with_reducible refine Below.drew ?_) | (with_reducible refine bdn ?_ _))) hb
  have DX4 : DR w4 s1 x := DR.keep hbX DX3
  clear DX3
  clear hbX
  have BW4 : Below w.heap.size w w4 := btr (by repeat (first | (with_reducible exact BW3) | (with_reducible refine bal ?_ _) | (with_reducible refine Below.drew ?_) | (with_reducible refine bdn ?_ _))) hb
  have X4 : Row5 w4 w.heap.size (.bool g) (.int .u64 (lb 0 x)) (.int .u64 (lb 1 x)) (.int .u64 (lb 2 x)) (.int .u64 (lb 3 x)) := Row5.keep hb (by repeat (first | (with_reducible exact X3) | (with_reducible refine Row5.alloc ?_ _) | (with_reducible refine Row5.drew ?_)))
  clear X3
  clear BW3
  clear hb
  go_wp2_with fail
  refine (K3.out _ _ (DR.keep (by repeat (first | (with_reducible exact Below.refl _ _) | (with_reducible refine bal ?_ _) | (with_reducible refine Below.drew ?_) | (with_reducible refine bdn ?_ _))) DX4)).mono ?_
  rintro e w5 ⟨rfl, hb⟩
  have hbX : Below w4.heap.size w4 w5 := btr (by repeat (first | (with_reducible exact Below.refl _ _) | (with_reducible refine bal ?_ _) | (with_reducible refine Below.drew ?_) | (with_reducible refine bdn ?_ _))) hb
  have DX5 : DR w5 s1 x := DR.keep hbX DX4
  clear DX4
  clear hbX
  have BW5 : Below w.heap.size w w5 := btr (by repeat (first | (with_reducible exact BW4) | (with_reducible refine bal ?_ _) | (with_reducible refine Below.drew ?_) | (with_reducible refine bdn ?_ _))) hb
  have X5 : Row5 w5 w.heap.size (.bool g) (.int .u64 (lb 0 x)) (.int .u64 (lb 1 x)) (.int .u64 (lb 2 x)) (.int .u64 (lb 3 x)) := Row5.keep hb (by repeat (first | (with_reducible exact X4) | (with_reducible refine Row5.alloc ?_ _) | (with_reducible refine Row5.drew ?_)))
  clear X4
  clear BW4
  clear hb
  go_wp2
  go_ret
  exact ⟨rfl, BW5⟩
set_option maxHeartbeats 1000000 in
set_option maxRecDepth 100000 in
theorem rex_no (g : Bool) (x : Nat) (hx : x < 2 ^ 256) (L t : Nat) (hL : ((L : Int) == 0) = false) (hL2 : L ≤ 2000) (ht : t ≤ 2000) (hq : 53 < (L : Int) - t) (w : World)
    (k1 : ∀ W, Calls Tryd.prog 29 #[I5 g x] W fun e w' => e = .returned (.bool true) ∧ Below W.heap.size W w')
    (k2 : ∀ s' W, DR W s' x → Calls Tryd.prog 12 #[s'] W fun e w' => e = .returned (.int .i64 (L : Int)) ∧ Below W.heap.size W w')
    (k3 : ∀ s' W, DR W s' x → Calls Tryd.prog 20 #[s'] W fun e w' => e = .returned (.int .i64 (t : Int)) ∧ Below W.heap.size W w') :
    Calls Tryd.prog 54 #[I5 g x] w fun e w' => e = .returned (.bool false) ∧ Below w.heap.size w w' := by
  unfold I5 at *
  have HX := Lib.hid hx; have K1 := Lib.hid k1; have K2 := Lib.hid k2; have K3 := Lib.hid k3; clear hx k1 k2 k3
  have hq2 : decide ((L : Int) - t ≤ 53) = false := decide_eq_false (by omega)
  go_enter Tryd.func54, Tryd.ntmps54
  go_wp2_with fail
  refine (rof x HX.out _).mono ?_
  rintro e w1 ⟨s1, rfl, hr, hb⟩
  have hbX : Below w.heap.size w w1 := btr (by repeat (first | (with_reducible exact Below.refl _ _) | (with_reducible refine bal ?_ _) | (with_reducible refine Below.drew ?_) | (with_reducible refine bdn ?_ _))) hb
  clear hbX
  have DX1 : DR w1 s1 x := hr
  clear hr
  have BW1 : Below w.heap.size w w1 := btr (by repeat (first | (with_reducible exact Below.refl _ _) | (with_reducible refine bal ?_ _) | (with_reducible refine Below.drew ?_) | (with_reducible refine bdn ?_ _))) hb
  have X1 : Row5 w1 w.heap.size (.bool g) (.int .u64 (lb 0 x)) (.int .u64 (lb 1 x)) (.int .u64 (lb 2 x)) (.int .u64 (lb 3 x)) := Row5.keep hb (by repeat (first | (with_reducible exact Row5.new _ _ _ _ _ _) | ((with_reducible refine Row5.new' _ ?_ _ _ _ _ _); (simp; done)) | (with_reducible refine Row5.alloc ?_ _) | (with_reducible refine Row5.drew ?_)))
  clear hb
  obtain ⟨Xc0, Xc1, Xc2, Xc3, Xc4⟩ := X1.parts
  obtain ⟨Xf0, Xf1, Xf2, Xf3, Xf4⟩ := X1.free
  go_wp2_with fail
  refine (K1.out _).mono ?_
  rintro e w2 ⟨rfl, hb⟩
  have hbX : Below w1.heap.size w1 w2 := btr (by repeat (first | (with_reducible exact Below.refl _ _) | (with_reducible refine bal ?_ _) | (with_reducible refine Below.drew ?_) | (with_reducible refine bdn ?_ _))) hb
  have DX2 : DR w2 s1 x := DR.keep hbX DX1
  clear DX1
  clear hbX
  have BW2 : Below w.heap.size w w2 := btr (by repeat (first | (with_reducible exact BW1) | (with_reducible refine bal ?_ _) | (with_reducible refine Below.drew ?_) | (with_reducible refine bdn ?_ _))) hb
  have X2 : Row5 w2 w.heap.size (.bool g) (.int .u64 (lb 0 x)) (.int .u64 (lb 1 x)) (.int .u64 (lb 2 x)) (.int .u64 (lb 3 x)) := Row5.keep hb (by repeat (first | (with_reducible exact X1) | (with_reducible refine Row5.alloc ?_ _) | (with_reducible refine Row5.drew ?_)))
  clear X1
  clear BW1
  clear hb
  go_wp2_with fail
  refine (K2.out _ _ (DR.keep (by repeat (first | (with_reducible exact Below.refl _ _) | (with_reducible refine bal ?_ _) | (with_reducible refine Below.drew ?_) | (with_reducible refine bdn ?_ _))) DX2)).mono ?_
  rintro e w3 ⟨rfl, hb⟩
  have hbX : Below w2.heap.size w2 w3 := btr (by repeat (first | (with_reducible exact Below.refl _ _) | (with_reducible refine bal ?_ _) | (with_reducible refine Below.drew ?_) | (with_reducible refine bdn ?_ _))) hb
  have DX3 : DR w3 s1 x := DR.keep hbX DX2
  clear DX2
  clear hbX
  have BW3 : Below w.heap.size w w3 := btr (by repeat (first | (with_reducible exact BW2) | (with_reducible refine bal ?_ _) | (with_reducible refine Below.drew ?_) | (with_reducible refine bdn ?_ _))) hb
  have X3 : Row5 w3 w.heap.size (.bool g) (.int .u64 (lb 0 x)) (.int .u64 (lb 1 x)) (.int .u64 (lb 2 x)) (.int .u64 (lb 3 x)) := Row5.keep hb (by repeat (first | (with_reducible exact X2) | (with_reducible refine Row5.alloc ?_ _) | (with_reducible refine Row5.drew ?_)))
  clear X2
  clear BW2
  clear hb
  go_wp2_with fail
  refine (K2.out _ _ (DR.keep (by repeat (first | (with_reducible exact Below.refl _ _) | (with_reducible refine bal ?_ _) | (with_reducible refine Below.drew ?_) | (with_reducible refine bdn ?_ _))) DX3)).mono ?_
  rintro e w4 ⟨rfl, hb⟩
  have hbX : Below w3.heap.size w3 w4 := btr (by repeat (first | (with_reducible exact Below.refl _ _) | (with_reducible refine bal ?_ _) | (with_reducible refine Below.drew ?_) | (with_reducible refine bdn ?_ _))) hb
  have DX4 : DR w4 s1 x := DR.keep hbX DX3
  clear DX3
  clear hbX
  have BW4 : Below w.heap.size w w4 := btr (by repeat (first | (with_reducible exact BW3) | (with_reducible refine bal ?_ _) | (with_reducible refine Below.drew ?_) | (with_reducible refine bdn ?_ _))) hb
  have X4 : Row5 w4 w.heap.size (.bool g) (.int .u64 (lb 0 x)) (.int .u64 (lb 1 x)) (.int .u64 (lb 2 x)) (.int .u64 (lb 3 x)) := Row5.keep hb (by repeat (first | (with_reducible exact X3) | (with_reducible refine Row5.alloc ?_ _) | (with_reducible refine Row5.drew ?_)))
  clear X3
  clear BW3
  clear hb
  go_wp2_with fail
  refine (K3.out _ _ (DR.keep (by repeat (first | (with_reducible exact Below.refl _ _) | (with_reducible refine bal ?_ _) | (with_reducible refine Below.drew ?_) | (with_reducible refine bdn ?_ _))) DX4)).mono ?_
  rintro e w5 ⟨rfl, hb⟩
  have hbX : Below w4.heap.size w4 w5 := btr (by repeat (first | (with_reducible exact Below.refl _ _) | (with_reducible refine bal ?_ _) | (with_reducible refine Below.drew ?_) | (with_reducible refine bdn ?_ _))) hb
  have DX5 : DR w5 s1 x := DR.keep hbX DX4
  clear DX4
  clear hbX
  have BW5 : Below w.heap.size w w5 := btr (by repeat (first | (with_reducible exact BW4) | (with_reducible refine bal ?_ _) | (with_reducible refine Below.drew ?_) | (with_reducible refine bdn ?_ _))) hb
  have X5 : Row5 w5 w.heap.size (.bool g) (.int .u64 (lb 0 x)) (.int .u64 (lb 1 x)) (.int .u64 (lb 2 x)) (.int .u64 (lb 3 x)) := Row5.keep hb (by repeat (first | (with_reducible exact X4) | (with_reducible refine Row5.alloc ?_ _) | (with_reducible refine Row5.drew ?_)))
  clear X4
  clear BW4
  clear hb
  go_wp2
  go_ret
  exact ⟨rfl, BW5⟩
set_option maxHeartbeats 1000000 in
set_option maxRecDepth 100000 in
theorem rex_bad (g : Bool) (x : Nat) (hx : x < 2 ^ 256) (w : World)
    (k1 : ∀ W, Calls Tryd.prog 29 #[I5 g x] W fun e w' => e = .returned (.bool false) ∧ Below W.heap.size W w') :
    Calls Tryd.prog 54 #[I5 g x] w fun e w' => e = .returned (.bool false) ∧ Below w.heap.size w w' := by
  unfold I5 at *
  have HX := Lib.hid hx; have K1 := Lib.hid k1; clear hx k1
  go_enter Tryd.func54, Tryd.ntmps54
  go_wp2_with fail
  refine (rof x HX.out _).mono ?_
  rintro e w1 ⟨s1, rfl, hr, hb⟩
  have hbX : Below w.heap.size w w1 := btr (by repeat (first | (with_reducible exact Below.refl _ _) | (with_reducible refine bal ?_ _) | (with_reducible refine Below.drew ?_) | (with_reducible refine bdn ?_ _))) hb
  clear hbX
  have DX1 : DR w1 s1 x := hr
  clear hr
  have BW1 : Below w.heap.size w w1 := btr (by repeat (first | (with_reducible exact Below.refl _ _) | (with_reducible refine bal ?_ _) | (with_reducible refine Below.drew ?_) | (with_reducible refine bdn ?_ _))) hb
  have X1 : Row5 w1 w.heap.size (.bool g) (.int .u64 (lb 0 x)) (.int .u64 (lb 1 x)) (.int .u64 (lb 2 x)) (.int .u64 (lb 3 x)) := Row5.keep hb (by repeat (first | (with_reducible exact Row5.new _ _ _ _ _ _) | ((with_reducible refine Row5.new' _ ?_ _ _ _ _ _); (simp; done)) | (with_reducible refine Row5.alloc ?_ _) | (with_reducible refine Row5.drew ?_)))
  clear hb
  obtain ⟨Xc0, Xc1, Xc2, Xc3, Xc4⟩ := X1.parts
  obtain ⟨Xf0, Xf1, Xf2, Xf3, Xf4⟩ := X1.free
  go_wp2_with fail
  refine (K1.out _).mono ?_
  rintro e w2 ⟨rfl, hb⟩
  have hbX : Below w1.heap.size w1 w2 := btr (by repeat (first | (with_reducible exact Below.refl _ _) | (with_reducible refine bal ?_ _) | (with_reducible refine Below.drew ?_) | (with_reducible refine bdn ?_ _))) hb
  have DX2 : DR w2 s1 x := DR.keep hbX DX1
  clear DX1
  clear hbX
  have BW2 : Below w.heap.size w w2 := btr (by repeat (first | (with_reducible exact BW1) | (with_reducible refine bal ?_ _) | (with_reducible refine Below.drew ?_) | (with_reducible refine bdn ?_ _))) hb
  have X2 : Row5 w2 w.heap.size (.bool g) (.int .u64 (lb 0 x)) (.int .u64 (lb 1 x)) (.int .u64 (lb 2 x)) (.int .u64 (lb 3 x)) := Row5.keep hb (by repeat (first | (with_reducible exact X1) | (with_reducible refine Row5.alloc ?_ _) | (with_reducible refine Row5.drew ?_)))
  clear X1
  clear BW1
  clear hb
  go_wp2
  go_ret
  exact ⟨rfl, BW2⟩
set_option maxHeartbeats 1000000 in
set_option maxRecDepth 100000 in
theorem rodd_none (g up : Bool) (x0 x1 x2 x3 : Int) (w : World) :
    Calls Tryd.prog 92 #[.agg #[.bool g, .int .u64 x0, .int .u64 x1, .int .u64 x2, .int .u64 x3], .bool false, .bool up] w fun e w' => e = .returned (.tuple #[.agg #[.bool g, .int .u64 x0, .int .u64 x1, .int .u64 x2, .int .u64 x3], .bool false]) ∧ Below w.heap.size w w' := by
  go_enter Tryd.func92, Tryd.ntmps92
  go_upto_region 2 with (fail)
  go_name_world w1 hw1
  have BW1 : Below w.heap.size w w1 := by rw [← hw1]; repeat (first | (with_reducible exact Below.refl _ _) | (with_reducible refine bal ?_ _) | (with_reducible refine Below.drew ?_) | (with_reducible refine bdn ?_ _))
  have X1 : Row5 w1 w.heap.size (.bool g) (.int .u64 x0) (.int .u64 x1) (.int .u64 x2) (.int .u64 x3) := by rw [← hw1]; exact (by repeat (first | (with_reducible exact Row5.new _ _ _ _ _ _) | ((with_reducible refine Row5.new' _ ?_ _ _ _ _ _); (simp; done)) | (with_reducible refine Row5.alloc ?_ _) | (with_reducible refine Row5.drew ?_)))
  have R1 : Row5 w1 (w.heap.size + 1) (.bool false) (.int .u64 0) (.int .u64 0) (.int .u64 0) (.int .u64 0) := by rw [← hw1]; exact (by repeat (first | (with_reducible exact Row5.new _ _ _ _ _ _) | ((with_reducible refine Row5.new' _ ?_ _ _ _ _ _); (simp; done)) | (with_reducible refine Row5.alloc ?_ _) | (with_reducible refine Row5.drew ?_)))
  clear hw1
  obtain ⟨Xc0, Xc1, Xc2, Xc3, Xc4⟩ := X1.parts
  obtain ⟨Xf0, Xf1, Xf2, Xf3, Xf4⟩ := X1.free
  obtain ⟨Rc0, Rc1, Rc2, Rc3, Rc4⟩ := R1.parts
  obtain ⟨Rf0, Rf1, Rf2, Rf3, Rf4⟩ := R1.free
  have lt_R := R1.lt; have lt_X := X1.lt; have nrx : ¬ w.heap.size + 1 = w.heap.size := by omega
  go_wp2
  exact bodyPost_ret (v := .tuple #[.agg #[.bool g, .int .u64 x0, .int .u64 x1, .int .u64 x2, .int .u64 x3], .bool false]) (by simp [results, Tryd.results92, go_sem, Rc0, Rc1, Rc2, Rc3, Rc4]) rfl ⟨rfl, by repeat (first | (with_reducible exact BW1) | (with_reducible refine bal ?_ _) | (with_reducible refine Below.drew ?_) | (with_reducible refine bdn ?_ _) | ((with_reducible refine bsc ?_ ?_ _); rotate_left; (focus (simp only []; omega))))⟩
set_option maxHeartbeats 1000000 in
set_option maxRecDepth 100000 in
theorem rodd_rough (g up : Bool) (x0 x1 x2 x3 : Int) (w : World)
    (k1 : ∀ W, Calls Tryd.prog 54 #[.agg #[.bool g, .int .u64 x0, .int .u64 x1, .int .u64 x2, .int .u64 x3]] W fun e w' => e = .returned (.bool false) ∧ Below W.heap.size W w') :
    Calls Tryd.prog 92 #[.agg #[.bool g, .int .u64 x0, .int .u64 x1, .int .u64 x2, .int .u64 x3], .bool true, .bool up] w fun e w' => e = .returned (.tuple #[.agg #[.bool g, .int .u64 x0, .int .u64 x1, .int .u64 x2, .int .u64 x3], .bool true]) ∧ Below w.heap.size w w' := by
  have K1 := Lib.hid k1; clear k1
  go_enter Tryd.func92, Tryd.ntmps92
  go_wp2_with fail
  refine (K1.out _).mono ?_
  rintro e w1 ⟨rfl, hb⟩
  have BW1 : Below w.heap.size w w1 := btr (by repeat (first | (with_reducible exact Below.refl _ _) | (with_reducible refine bal ?_ _) | (with_reducible refine Below.drew ?_) | (with_reducible refine bdn ?_ _))) hb
  have X1 : Row5 w1 w.heap.size (.bool g) (.int .u64 x0) (.int .u64 x1) (.int .u64 x2) (.int .u64 x3) := Row5.keep hb (by repeat (first | (with_reducible exact Row5.new _ _ _ _ _ _) | ((with_reducible refine Row5.new' _ ?_ _ _ _ _ _); (simp; done)) | (with_reducible refine Row5.alloc ?_ _) | (with_reducible refine Row5.drew ?_)))
  have R1 : Row5 w1 (w.heap.size + 1) (.bool false) (.int .u64 0) (.int .u64 0) (.int .u64 0) (.int .u64 0) := Row5.keep hb (by repeat (first | (with_reducible exact Row5.new _ _ _ _ _ _) | ((with_reducible refine Row5.new' _ ?_ _ _ _ _ _); (simp; done)) | (with_reducible refine Row5.alloc ?_ _) | (with_reducible refine Row5.drew ?_)))
  clear hb
  go_upto_region 2 with (fail)
  go_name_world w2 hw2
  have BW2 : Below w.heap.size w w2 := by rw [← hw2]; repeat (first | (with_reducible exact BW1) | (with_reducible refine bal ?_ _) | (with_reducible refine Below.drew ?_) | (with_reducible refine bdn ?_ _))
  have X2 : Row5 w2 w.heap.size (.bool g) (.int .u64 x0) (.int .u64 x1) (.int .u64 x2) (.int .u64 x3) := by rw [← hw2]; exact (by repeat (first | (with_reducible exact X1) | (with_reducible refine Row5.alloc ?_ _) | (with_reducible refine Row5.drew ?_)))
  have R2 : Row5 w2 (w.heap.size + 1) (.bool false) (.int .u64 0) (.int .u64 0) (.int .u64 0) (.int .u64 0) := by rw [← hw2]; exact (by repeat (first | (with_reducible exact R1) | (with_reducible refine Row5.alloc ?_ _) | (with_reducible refine Row5.drew ?_)))
  clear X1 R1
  clear BW1
  clear hw2
  obtain ⟨Xc0, Xc1, Xc2, Xc3, Xc4⟩ := X2.parts
  obtain ⟨Xf0, Xf1, Xf2, Xf3, Xf4⟩ := X2.free
  obtain ⟨Rc0, Rc1, Rc2, Rc3, Rc4⟩ := R2.parts
  obtain ⟨Rf0, Rf1, Rf2, Rf3, Rf4⟩ := R2.free
  have lt_R := R2.lt; have lt_X := X2.lt; have nrx : ¬ w.heap.size + 1 = w.heap.size := by omega
  go_wp2
  exact bodyPost_ret (v := .tuple #[.agg #[.bool g, .int .u64 x0, .int .u64 x1, .int .u64 x2, .int .u64 x3], .bool true]) (by simp [results, Tryd.results92, go_sem, Rc0, Rc1, Rc2, Rc3, Rc4]) rfl ⟨rfl, by repeat (first | (with_reducible exact BW2) | (with_reducible refine bal ?_ _) | (with_reducible refine Below.drew ?_) | (with_reducible refine bdn ?_ _) | ((with_reducible refine bsc ?_ ?_ _); rotate_left; (focus (simp only []; omega))))⟩
theorem rpow_53 (w : World) : Calls Tryd.prog 72 #[.int .i64 53] w fun e w' => ∃ s', e = .returned s' ∧ DR w' s' (2 ^ 53) ∧ Below w.heap.size w w' := rpow 53 (by decide) w
theorem radd_least {s t : Value} {w : World} (hx : DR w s (2 ^ 53)) (hy : DR w t 1) (lx : (digs (2 ^ 53)).length ≤ 1000) (ly : (digs 1).length ≤ 1000) :
    Calls Tryd.prog 86 #[s, t] w fun e w' => ∃ s', e = .returned s' ∧ DR w' s' 9007199254740993 ∧ Below w.heap.size w w' := radd hx hy lx ly
set_option maxHeartbeats 4000000 in
set_option maxRecDepth 100000 in
theorem rnear_bad (g up ex : Bool) (x : Nat) (hx : x < 2 ^ 256) (w : World)
    (k1 : ∀ W, Calls Tryd.prog 29 #[I5 g x] W fun e w' => e = .returned (.bool false) ∧ Below W.heap.size W w') :
    Calls Tryd.prog 49 #[I5 g x, .bool up, .bool ex] w fun e w' => e = .returned (.tuple #[.agg #[.bool false, .int .u64 0, .int .u64 0, .int .u64 0, .int .u64 0], .bool false]) ∧ Below w.heap.size w w' := by
  unfold I5 at *
  have HX := Lib.hid hx; have K1 := Lib.hid k1; clear hx k1
  have L1 := Lib.hid (digs_eight HX.out); have L2 := Lib.hid (digs_eight (show 1 < 2 ^ 256 by decide)); have L3 := Lib.hid (digs_eight (show 2 ^ 53 < 2 ^ 256 by decide))
  go_enter Tryd.func49, Tryd.ntmps49
  go_wp2_with fail
  refine (K1.out _).mono ?_
  rintro e w1 ⟨rfl, hb⟩
  have BW1 : Below w.heap.size w w1 := btr (by repeat (first | (with_reducible exact Below.refl _ _) | (with_reducible refine bal ?_ _) | (with_reducible refine Below.drew ?_) | (with_reducible refine bdn ?_ _))) hb
  have X1 : Row5 w1 w.heap.size (.bool g) (.int .u64 (lb 0 x)) (.int .u64 (lb 1 x)) (.int .u64 (lb 2 x)) (.int .u64 (lb 3 x)) := Row5.keep hb (by repeat (first | (with_reducible exact Row5.new _ _ _ _ _ _) | ((with_reducible refine Row5.new' _ ?_ _ _ _ _ _); (simp; done)) | (with_reducible refine Row5.alloc ?_ _) | (with_reducible refine Row5.drew ?_)))
  have R1 : Row5 w1 (w.heap.size + 1) (.bool false) (.int .u64 0) (.int .u64 0) (.int .u64 0) (.int .u64 0) := Row5.keep hb (by repeat (first | (with_reducible exact Row5.new _ _ _ _ _ _) | ((with_reducible refine Row5.new' _ ?_ _ _ _ _ _); (simp; done)) | (with_reducible refine Row5.alloc ?_ _) | (with_reducible refine Row5.drew ?_)))
  clear hb
  obtain ⟨Rc0, Rc1, Rc2, Rc3, Rc4⟩ := R1.parts
  obtain ⟨Rf0, Rf1, Rf2, Rf3, Rf4⟩ := R1.free
  have lt_R := R1.lt
  go_wp2
  exact bodyPost_ret (v := .tuple #[.agg #[.bool false, .int .u64 0, .int .u64 0, .int .u64 0, .int .u64 0], .bool false]) (by simp [results, Tryd.results49, go_sem, Rc0, Rc1, Rc2, Rc3, Rc4]) rfl ⟨rfl, by repeat (first | (with_reducible exact BW1) | (with_reducible refine bal ?_ _) | (with_reducible refine Below.drew ?_) | (with_reducible refine bdn ?_ _) | ((with_reducible refine bsc ?_ ?_ _); rotate_left; (focus (simp only []; omega))))⟩
set_option maxHeartbeats 4000000 in
set_option maxRecDepth 100000 in
theorem rnear_same_false_false (up : Bool) (x : Nat) (hx : x < 2 ^ 256) (w : World)
    (k1 : ∀ W, Calls Tryd.prog 29 #[I5 false x] W fun e w' => e = .returned (.bool true) ∧ Below W.heap.size W w')
    (k2 : ∀ W, Calls Tryd.prog 54 #[I5 false x] W fun e w' => e = .returned (.bool false) ∧ Below W.heap.size W w') :
    Calls Tryd.prog 49 #[I5 false x, .bool up, .bool false] w fun e w' => e = .returned (.tuple #[I5 false x, .bool true]) ∧ Below w.heap.size w w' := by
  unfold I5 at *
  have HX := Lib.hid hx; have K1 := Lib.hid k1; have K2 := Lib.hid k2; clear hx k1 k2
  have L1 := Lib.hid (digs_eight HX.out); have L2 := Lib.hid (digs_eight (show 1 < 2 ^ 256 by decide)); have L3 := Lib.hid (digs_eight (show 2 ^ 53 < 2 ^ 256 by decide))
  go_enter Tryd.func49, Tryd.ntmps49
  go_wp2_with fail
  refine (K1.out _).mono ?_
  rintro e w1 ⟨rfl, hb⟩
  have BW1 : Below w.heap.size w w1 := btr (by repeat (first | (with_reducible exact Below.refl _ _) | (with_reducible refine bal ?_ _) | (with_reducible refine Below.drew ?_) | (with_reducible refine bdn ?_ _))) hb
  have X1 : Row5 w1 w.heap.size (.bool false) (.int .u64 (lb 0 x)) (.int .u64 (lb 1 x)) (.int .u64 (lb 2 x)) (.int .u64 (lb 3 x)) := Row5.keep hb (by repeat (first | (with_reducible exact Row5.new _ _ _ _ _ _) | ((with_reducible refine Row5.new' _ ?_ _ _ _ _ _); (simp; done)) | (with_reducible refine Row5.alloc ?_ _) | (with_reducible refine Row5.drew ?_)))
  have R1 : Row5 w1 (w.heap.size + 1) (.bool false) (.int .u64 0) (.int .u64 0) (.int .u64 0) (.int .u64 0) := Row5.keep hb (by repeat (first | (with_reducible exact Row5.new _ _ _ _ _ _) | ((with_reducible refine Row5.new' _ ?_ _ _ _ _ _); (simp; done)) | (with_reducible refine Row5.alloc ?_ _) | (with_reducible refine Row5.drew ?_)))
  clear hb
  obtain ⟨Xc0, Xc1, Xc2, Xc3, Xc4⟩ := X1.parts
  obtain ⟨Xf0, Xf1, Xf2, Xf3, Xf4⟩ := X1.free
  go_wp2_with fail
  refine (K2.out _).mono ?_
  rintro e w2 ⟨rfl, hb⟩
  have BW2 : Below w.heap.size w w2 := btr (by repeat (first | (with_reducible exact BW1) | (with_reducible refine bal ?_ _) | (with_reducible refine Below.drew ?_) | (with_reducible refine bdn ?_ _))) hb
  have X2 : Row5 w2 w.heap.size (.bool false) (.int .u64 (lb 0 x)) (.int .u64 (lb 1 x)) (.int .u64 (lb 2 x)) (.int .u64 (lb 3 x)) := Row5.keep hb (by repeat (first | (with_reducible exact X1) | (with_reducible refine Row5.alloc ?_ _) | (with_reducible refine Row5.drew ?_)))
  have R2 : Row5 w2 (w.heap.size + 1) (.bool false) (.int .u64 0) (.int .u64 0) (.int .u64 0) (.int .u64 0) := Row5.keep hb (by repeat (first | (with_reducible exact R1) | (with_reducible refine Row5.alloc ?_ _) | (with_reducible refine Row5.drew ?_)))
  clear X1 R1
  clear BW1
  clear hb
  obtain ⟨Xc0, Xc1, Xc2, Xc3, Xc4⟩ := X2.parts
  obtain ⟨Xf0, Xf1, Xf2, Xf3, Xf4⟩ := X2.free
  have nrx : ¬ w.heap.size + 1 = w.heap.size := by omega
  obtain ⟨Rc0, Rc1, Rc2, Rc3, Rc4⟩ := R2.parts
  obtain ⟨Rf0, Rf1, Rf2, Rf3, Rf4⟩ := R2.free
  have lt_R := R2.lt
  go_wp2
  exact bodyPost_ret (v := .tuple #[.agg #[.bool false, .int .u64 (lb 0 x), .int .u64 (lb 1 x), .int .u64 (lb 2 x), .int .u64 (lb 3 x)], .bool true]) (by simp [results, Tryd.results49, go_sem, Rc0, Rc1, Rc2, Rc3, Rc4]) rfl ⟨rfl, by repeat (first | (with_reducible exact BW2) | (with_reducible refine bal ?_ _) | (with_reducible refine Below.drew ?_) | (with_reducible refine bdn ?_ _) | ((with_reducible refine bsc ?_ ?_ _); rotate_left; (focus (simp only []; omega))))⟩
set_option maxHeartbeats 4000000 in
set_option maxRecDepth 100000 in
theorem rnear_same_false_true (up : Bool) (x : Nat) (hx : x < 2 ^ 256) (w : World)
    (k1 : ∀ W, Calls Tryd.prog 29 #[I5 false x] W fun e w' => e = .returned (.bool true) ∧ Below W.heap.size W w')
    (k2 : ∀ W, Calls Tryd.prog 54 #[I5 false x] W fun e w' => e = .returned (.bool true) ∧ Below W.heap.size W w') :
    Calls Tryd.prog 49 #[I5 false x, .bool up, .bool true] w fun e w' => e = .returned (.tuple #[I5 false x, .bool true]) ∧ Below w.heap.size w w' := by
  unfold I5 at *
  have HX := Lib.hid hx; have K1 := Lib.hid k1; have K2 := Lib.hid k2; clear hx k1 k2
  have L1 := Lib.hid (digs_eight HX.out); have L2 := Lib.hid (digs_eight (show 1 < 2 ^ 256 by decide)); have L3 := Lib.hid (digs_eight (show 2 ^ 53 < 2 ^ 256 by decide))
  go_enter Tryd.func49, Tryd.ntmps49
  go_wp2_with fail
  refine (K1.out _).mono ?_
  rintro e w1 ⟨rfl, hb⟩
  have BW1 : Below w.heap.size w w1 := btr (by repeat (first | (with_reducible exact Below.refl _ _) | (with_reducible refine bal ?_ _) | (with_reducible refine Below.drew ?_) | (with_reducible refine bdn ?_ _))) hb
  have X1 : Row5 w1 w.heap.size (.bool false) (.int .u64 (lb 0 x)) (.int .u64 (lb 1 x)) (.int .u64 (lb 2 x)) (.int .u64 (lb 3 x)) := Row5.keep hb (by repeat (first | (with_reducible exact Row5.new _ _ _ _ _ _) | ((with_reducible refine Row5.new' _ ?_ _ _ _ _ _); (simp; done)) | (with_reducible refine Row5.alloc ?_ _) | (with_reducible refine Row5.drew ?_)))
  have R1 : Row5 w1 (w.heap.size + 1) (.bool false) (.int .u64 0) (.int .u64 0) (.int .u64 0) (.int .u64 0) := Row5.keep hb (by repeat (first | (with_reducible exact Row5.new _ _ _ _ _ _) | ((with_reducible refine Row5.new' _ ?_ _ _ _ _ _); (simp; done)) | (with_reducible refine Row5.alloc ?_ _) | (with_reducible refine Row5.drew ?_)))
  clear hb
  obtain ⟨Xc0, Xc1, Xc2, Xc3, Xc4⟩ := X1.parts
  obtain ⟨Xf0, Xf1, Xf2, Xf3, Xf4⟩ := X1.free
  go_wp2_with fail
  refine (K2.out _).mono ?_
  rintro e w2 ⟨rfl, hb⟩
  have BW2 : Below w.heap.size w w2 := btr (by repeat (first | (with_reducible exact BW1) | (with_reducible refine bal ?_ _) | (with_reducible refine Below.drew ?_) | (with_reducible refine bdn ?_ _))) hb
  have X2 : Row5 w2 w.heap.size (.bool false) (.int .u64 (lb 0 x)) (.int .u64 (lb 1 x)) (.int .u64 (lb 2 x)) (.int .u64 (lb 3 x)) := Row5.keep hb (by repeat (first | (with_reducible exact X1) | (with_reducible refine Row5.alloc ?_ _) | (with_reducible refine Row5.drew ?_)))
  have R2 : Row5 w2 (w.heap.size + 1) (.bool false) (.int .u64 0) (.int .u64 0) (.int .u64 0) (.int .u64 0) := Row5.keep hb (by repeat (first | (with_reducible exact R1) | (with_reducible refine Row5.alloc ?_ _) | (with_reducible refine Row5.drew ?_)))
  clear X1 R1
  clear BW1
  clear hb
  obtain ⟨Xc0, Xc1, Xc2, Xc3, Xc4⟩ := X2.parts
  obtain ⟨Xf0, Xf1, Xf2, Xf3, Xf4⟩ := X2.free
  have nrx : ¬ w.heap.size + 1 = w.heap.size := by omega
  obtain ⟨Rc0, Rc1, Rc2, Rc3, Rc4⟩ := R2.parts
  obtain ⟨Rf0, Rf1, Rf2, Rf3, Rf4⟩ := R2.free
  have lt_R := R2.lt
  go_wp2
  exact bodyPost_ret (v := .tuple #[.agg #[.bool false, .int .u64 (lb 0 x), .int .u64 (lb 1 x), .int .u64 (lb 2 x), .int .u64 (lb 3 x)], .bool true]) (by simp [results, Tryd.results49, go_sem, Rc0, Rc1, Rc2, Rc3, Rc4]) rfl ⟨rfl, by repeat (first | (with_reducible exact BW2) | (with_reducible refine bal ?_ _) | (with_reducible refine Below.drew ?_) | (with_reducible refine bdn ?_ _) | ((with_reducible refine bsc ?_ ?_ _); rotate_left; (focus (simp only []; omega))))⟩
set_option maxHeartbeats 4000000 in
set_option maxRecDepth 100000 in
theorem rnear_cutup_false (x : Nat) (hx : x < 2 ^ 256) (h : Bool) (y0 y1 y2 y3 : Int) (b : Bool) (L k q v : Nat) (hk : (L : Int) - 53 = (k : Int)) (hk2 : k ≤ 300) (hq : q < 2 ^ 256) (w : World)
    (k1 : ∀ W, Calls Tryd.prog 29 #[I5 false x] W fun e w' => e = .returned (.bool true) ∧ Below W.heap.size W w')
    (k2 : ∀ W, Calls Tryd.prog 54 #[I5 false x] W fun e w' => e = .returned (.bool false) ∧ Below W.heap.size W w')
    (k3 : ∀ s' W, DR W s' x → Calls Tryd.prog 12 #[s'] W fun e w' => e = .returned (.int .i64 (L : Int)) ∧ Below W.heap.size W w')
    (k4 : ∀ s' W, DR W s' x → Calls Tryd.prog 13 #[s', .int .i64 (-(k : Int))] W fun e w' => ∃ s2, e = .returned s2 ∧ DR w' s2 q ∧ Below W.heap.size W w')
    (k5 : ∀ s' W, DR W s' (q + 1) → Calls Tryd.prog 13 #[s', .int .i64 (k : Int)] W fun e w' => ∃ s2, e = .returned s2 ∧ DR w' s2 v ∧ Below W.heap.size W w')
    (kw : ∀ s' W, DR W s' v → Calls Tryd.prog 85 #[.bool false, s'] W fun e w' => e = .returned (.tuple #[.agg #[.bool h, .int .u64 y0, .int .u64 y1, .int .u64 y2, .int .u64 y3], .bool b]) ∧ Below W.heap.size W w') :
    Calls Tryd.prog 49 #[I5 false x, .bool true, .bool true] w fun e w' => e = .returned (.tuple #[.agg #[.bool h, .int .u64 y0, .int .u64 y1, .int .u64 y2, .int .u64 y3], .bool b]) ∧ Below w.heap.size w w' := by
  unfold I5 at *
  have HX := Lib.hid hx; have K1 := Lib.hid k1; have K2 := Lib.hid k2; have K3 := Lib.hid k3; have K4 := Lib.hid k4; have K5 := Lib.hid k5; have KW := Lib.hid kw; clear hx k1 k2 k3 k4 k5 kw
  have L1 := Lib.hid (digs_eight HX.out); have L2 := Lib.hid (digs_eight (show 1 < 2 ^ 256 by decide)); have L3 := Lib.hid (digs_eight (show 2 ^ 53 < 2 ^ 256 by decide))
  have LQ := Lib.hid (digs_eight hq); clear hq
  go_enter Tryd.func49, Tryd.ntmps49
  go_wp2_with fail
  refine (K1.out _).mono ?_
  rintro e w1 ⟨rfl, hb⟩
  have BW1 : Below w.heap.size w w1 := btr (by repeat (first | (with_reducible exact Below.refl _ _) | (with_reducible refine bal ?_ _) | (with_reducible refine Below.drew ?_) | (with_reducible refine bdn ?_ _))) hb
  have X1 : Row5 w1 w.heap.size (.bool false) (.int .u64 (lb 0 x)) (.int .u64 (lb 1 x)) (.int .u64 (lb 2 x)) (.int .u64 (lb 3 x)) := Row5.keep hb (by repeat (first | (with_reducible exact Row5.new _ _ _ _ _ _) | ((with_reducible refine Row5.new' _ ?_ _ _ _ _ _); (simp; done)) | (with_reducible refine Row5.alloc ?_ _) | (with_reducible refine Row5.drew ?_)))
  have R1 : Row5 w1 (w.heap.size + 1) (.bool false) (.int .u64 0) (.int .u64 0) (.int .u64 0) (.int .u64 0) := Row5.keep hb (by repeat (first | (with_reducible exact Row5.new _ _ _ _ _ _) | ((with_reducible refine Row5.new' _ ?_ _ _ _ _ _); (simp; done)) | (with_reducible refine Row5.alloc ?_ _) | (with_reducible refine Row5.drew ?_)))
  clear hb
  obtain ⟨Xc0, Xc1, Xc2, Xc3, Xc4⟩ := X1.parts
  obtain ⟨Xf0, Xf1, Xf2, Xf3, Xf4⟩ := X1.free
  go_wp2_with fail
  refine (K2.out _).mono ?_
  rintro e w2 ⟨rfl, hb⟩
  have BW2 : Below w.heap.size w w2 := btr (by repeat (first | (with_reducible exact BW1) | (with_reducible refine bal ?_ _) | (with_reducible refine Below.drew ?_) | (with_reducible refine bdn ?_ _))) hb
  have X2 : Row5 w2 w.heap.size (.bool false) (.int .u64 (lb 0 x)) (.int .u64 (lb 1 x)) (.int .u64 (lb 2 x)) (.int .u64 (lb 3 x)) := Row5.keep hb (by repeat (first | (with_reducible exact X1) | (with_reducible refine Row5.alloc ?_ _) | (with_reducible refine Row5.drew ?_)))
  have R2 : Row5 w2 (w.heap.size + 1) (.bool false) (.int .u64 0) (.int .u64 0) (.int .u64 0) (.int .u64 0) := Row5.keep hb (by repeat (first | (with_reducible exact R1) | (with_reducible refine Row5.alloc ?_ _) | (with_reducible refine Row5.drew ?_)))
  clear X1 R1
  clear BW1
  clear hb
  obtain ⟨Xc0, Xc1, Xc2, Xc3, Xc4⟩ := X2.parts
  obtain ⟨Xf0, Xf1, Xf2, Xf3, Xf4⟩ := X2.free
  go_wp2_with fail
  refine (rof x HX.out _).mono ?_
  rintro e w3 ⟨s1, rfl, hr, hb⟩
  have hbX : Below w2.heap.size w2 w3 := btr (by repeat (first | (with_reducible exact Below.refl _ _) | (with_reducible refine bal ?_ _) | (with_reducible refine Below.drew ?_) | (with_reducible refine bdn ?_ _))) hb
  clear hbX
  have DX3 : DR w3 s1 x := hr
  clear hr
  have BW3 : Below w.heap.size w w3 := btr (by repeat (first | (with_reducible exact BW2) | (with_reducible refine bal ?_ _) | (with_reducible refine Below.drew ?_) | (with_reducible refine bdn ?_ _))) hb
  have X3 : Row5 w3 w.heap.size (.bool false) (.int .u64 (lb 0 x)) (.int .u64 (lb 1 x)) (.int .u64 (lb 2 x)) (.int .u64 (lb 3 x)) := Row5.keep hb (by repeat (first | (with_reducible exact X2) | (with_reducible refine Row5.alloc ?_ _) | (with_reducible refine Row5.drew ?_)))
  have R3 : Row5 w3 (w.heap.size + 1) (.bool false) (.int .u64 0) (.int .u64 0) (.int .u64 0) (.int .u64 0) := Row5.keep hb (by repeat (first | (with_reducible exact R2) | (with_reducible refine Row5.alloc ?_ _) | (with_reducible refine Row5.drew ?_)))
  clear X2 R2
  clear BW2
  clear hb
  obtain ⟨Xc0, Xc1, Xc2, Xc3, Xc4⟩ := X3.parts
  obtain ⟨Xf0, Xf1, Xf2, Xf3, Xf4⟩ := X3.free
  go_wp2_with fail
  refine (K3.out _ _ (DR.keep (by repeat (first | (with_reducible exact Below.refl _ _) | (with_reducible refine bal ?_ _) | (with_reducible refine Below.drew ?_) | (with_reducible refine bdn ?_ _))) DX3)).mono ?_
  rintro e w4 ⟨rfl, hb⟩
  have hbX : Below w3.heap.size w3 w4 := btr (by repeat (first | (with_reducible exact Below.refl _ _) | (with_reducible refine bal ?_ _) | (with_reducible refine Below.drew ?_) | (with_reducible refine bdn ?_ _))) hb
  have DX4 : DR w4 s1 x := DR.keep hbX DX3
  clear DX3
  clear hbX
  have BW4 : Below w.heap.size w w4 := btr (by repeat (first | (with_reducible exact BW3) | (with_reducible refine bal ?_ _) | (with_reducible refine Below.drew ?_) | (with_reducible refine bdn ?_ _))) hb
  have X4 : Row5 w4 w.heap.size (.bool false) (.int .u64 (lb 0 x)) (.int .u64 (lb 1 x)) (.int .u64 (lb 2 x)) (.int .u64 (lb 3 x)) := Row5.keep hb (by repeat (first | (with_reducible exact X3) | (with_reducible refine Row5.alloc ?_ _) | (with_reducible refine Row5.drew ?_)))
  have R4 : Row5 w4 (w.heap.size + 1) (.bool false) (.int .u64 0) (.int .u64 0) (.int .u64 0) (.int .u64 0) := Row5.keep hb (by repeat (first | (with_reducible exact R3) | (with_reducible refine Row5.alloc ?_ _) | (with_reducible refine Row5.drew ?_)))
  clear X3 R3
  clear BW3
  clear hb
  go_wp2_with fail
  refine (K4.out _ _ (DR.keep (by repeat (first | (with_reducible exact Below.refl _ _) | (with_reducible refine bal ?_ _) | (with_reducible refine Below.drew ?_) | (with_reducible refine bdn ?_ _))) DX4)).mono ?_
  rintro e w5 ⟨s2, rfl, hr, hb⟩
  have hbX : Below w4.heap.size w4 w5 := btr (by repeat (first | (with_reducible exact Below.refl _ _) | (with_reducible refine bal ?_ _) | (with_reducible refine Below.drew ?_) | (with_reducible refine bdn ?_ _))) hb
  have DX5 : DR w5 s1 x := DR.keep hbX DX4
  clear DX4
  clear hbX
  have DQ5 : DR w5 s2 q := hr
  clear hr
  have BW5 : Below w.heap.size w w5 := btr (by repeat (first | (with_reducible exact BW4) | (with_reducible refine bal ?_ _) | (with_reducible refine Below.drew ?_) | (with_reducible refine bdn ?_ _))) hb
  have X5 : Row5 w5 w.heap.size (.bool false) (.int .u64 (lb 0 x)) (.int .u64 (lb 1 x)) (.int .u64 (lb 2 x)) (.int .u64 (lb 3 x)) := Row5.keep hb (by repeat (first | (with_reducible exact X4) | (with_reducible refine Row5.alloc ?_ _) | (with_reducible refine Row5.drew ?_)))
  have R5 : Row5 w5 (w.heap.size + 1) (.bool false) (.int .u64 0) (.int .u64 0) (.int .u64 0) (.int .u64 0) := Row5.keep hb (by repeat (first | (with_reducible exact R4) | (with_reducible refine Row5.alloc ?_ _) | (with_reducible refine Row5.drew ?_)))
  clear X4 R4
  clear BW4
  clear hb
  go_wp2_with fail
  refine (radd (DR.keep (by repeat (first | (with_reducible exact Below.refl _ _) | (with_reducible refine bal ?_ _) | (with_reducible refine Below.drew ?_) | (with_reducible refine bdn ?_ _))) DQ5) (DR.keep (by repeat (first | (with_reducible exact Below.refl _ _) | (with_reducible refine bal ?_ _) | (with_reducible refine Below.drew ?_) | (with_reducible refine bdn ?_ _))) (ten_new w5 1 (by decide) (by decide) 1 rfl)) LQ.out L2.out).mono ?_
  rintro e w6 ⟨s3, rfl, hr, hb⟩
  have hbX : Below w5.heap.size w5 w6 := btr (by repeat (first | (with_reducible exact Below.refl _ _) | (with_reducible refine bal ?_ _) | (with_reducible refine Below.drew ?_) | (with_reducible refine bdn ?_ _))) hb
  have DX6 : DR w6 s1 x := DR.keep hbX DX5
  have DQ6 : DR w6 s2 q := DR.keep hbX DQ5
  clear DX5 DQ5
  clear hbX
  have DE6 : DR w6 s3 (q + 1) := hr
  clear hr
  have BW6 : Below w.heap.size w w6 := btr (by repeat (first | (with_reducible exact BW5) | (with_reducible refine bal ?_ _) | (with_reducible refine Below.drew ?_) | (with_reducible refine bdn ?_ _))) hb
  have X6 : Row5 w6 w.heap.size (.bool false) (.int .u64 (lb 0 x)) (.int .u64 (lb 1 x)) (.int .u64 (lb 2 x)) (.int .u64 (lb 3 x)) := Row5.keep hb (by repeat (first | (with_reducible exact X5) | (with_reducible refine Row5.alloc ?_ _) | (with_reducible refine Row5.drew ?_)))
  have R6 : Row5 w6 (w.heap.size + 1) (.bool false) (.int .u64 0) (.int .u64 0) (.int .u64 0) (.int .u64 0) := Row5.keep hb (by repeat (first | (with_reducible exact R5) | (with_reducible refine Row5.alloc ?_ _) | (with_reducible refine Row5.drew ?_)))
  clear X5 R5
  clear BW5
  clear hb
  go_upto_region 12 with (fail)
  go_name_world w7 hw7
  have BW7 : Below w.heap.size w w7 := by rw [← hw7]; repeat (first | (with_reducible exact BW6) | (with_reducible refine bal ?_ _) | (with_reducible refine Below.drew ?_) | (with_reducible refine bdn ?_ _))
  have hbX : Below w6.heap.size w6 w7 := by rw [← hw7]; repeat (first | (with_reducible exact Below.refl _ _) | (with_reducible refine bal ?_ _) | (with_reducible refine Below.drew ?_) | (with_reducible refine bdn ?_ _))
  have DX7 : DR w7 s1 x := DR.keep hbX DX6
  have DQ7 : DR w7 s2 q := DR.keep hbX DQ6
  have DE7 : DR w7 s3 (q + 1) := DR.keep hbX DE6
  clear hbX DX6 DQ6 DE6
  have X7 : Row5 w7 w.heap.size (.bool false) (.int .u64 (lb 0 x)) (.int .u64 (lb 1 x)) (.int .u64 (lb 2 x)) (.int .u64 (lb 3 x)) := by rw [← hw7]; exact (by repeat (first | (with_reducible exact X6) | (with_reducible refine Row5.alloc ?_ _) | (with_reducible refine Row5.drew ?_)))
  have R7 : Row5 w7 (w.heap.size + 1) (.bool false) (.int .u64 0) (.int .u64 0) (.int .u64 0) (.int .u64 0) := by rw [← hw7]; exact (by repeat (first | (with_reducible exact R6) | (with_reducible refine Row5.alloc ?_ _) | (with_reducible refine Row5.drew ?_)))
  clear X6 R6
  clear BW6
  clear hw7
  have lt_X := X7.lt
  have lt_R := R7.lt
  go_region_held3 (fun w' => w'.cell? ⟨w.heap.size, 0, none⟩ = some (.bool false) ∧ w'.cell? ⟨w.heap.size, 1, none⟩ = some (.int .u64 (lb 0 x)) ∧ w'.cell? ⟨w.heap.size, 2, none⟩ = some (.int .u64 (lb 1 x)) ∧ w'.cell? ⟨w.heap.size, 3, none⟩ = some (.int .u64 (lb 2 x)) ∧ w'.cell? ⟨w.heap.size, 4, none⟩ = some (.int .u64 (lb 3 x)))
    ((refine Row5.parts ?_; (repeat (first | (with_reducible assumption) | (with_reducible refine Row5.alloc ?_ _) | (with_reducible refine Row5.drew ?_) | (with_reducible refine Row5.drewN ?_ _) | ((with_reducible refine Row5.set ?_ ?_ _); rotate_left; (focus (omega))))); done))
    (first | (go_at_call 13; (with_reducible refine (K5.out _ _ (DR.keep (by repeat (first | (with_reducible exact Below.refl _ _) | (with_reducible refine bal ?_ _) | (with_reducible refine Below.drew ?_) | (with_reducible refine bdn ?_ _))) DE7)).mono ?_); rintro e wa ⟨sa, rfl, hra, hba⟩; have ba : Below w.heap.size w wa := btr (by repeat (first | (with_reducible exact BW7) | (with_reducible refine bal ?_ _) | (with_reducible refine Below.drew ?_) | (with_reducible refine bdn ?_ _))) hba; have Xa : Row5 wa w.heap.size (.bool false) (.int .u64 (lb 0 x)) (.int .u64 (lb 1 x)) (.int .u64 (lb 2 x)) (.int .u64 (lb 3 x)) := Row5.keep hba (by repeat (first | (with_reducible exact X7) | (with_reducible refine Row5.alloc ?_ _) | (with_reducible refine Row5.drew ?_) | (with_reducible refine Row5.drewN ?_ _))); have Ra : Row5 wa (w.heap.size + 1) (.bool false) (.int .u64 0) (.int .u64 0) (.int .u64 0) (.int .u64 0) := Row5.keep hba (by repeat (first | (with_reducible exact R7) | (with_reducible refine Row5.alloc ?_ _) | (with_reducible refine Row5.drew ?_) | (with_reducible refine Row5.drewN ?_ _))); obtain ⟨xa0, xa1, xa2, xa3, xa4⟩ := Xa.parts) | (go_at_call 85; (with_reducible refine (KW.out _ _ (DR.keep (by repeat (first | (with_reducible exact Below.refl _ _) | (with_reducible refine bal ?_ _) | (with_reducible refine Below.drew ?_) | (with_reducible refine bdn ?_ _))) hra)).mono ?_); rintro e wb ⟨rfl, hbb⟩; have bb : Below w.heap.size w wb := btr (by repeat (first | (with_reducible exact ba) | (with_reducible refine bal ?_ _) | (with_reducible refine Below.drew ?_) | (with_reducible refine bdn ?_ _))) hbb; have Rb : Row5 wb (w.heap.size + 1) (.bool false) (.int .u64 0) (.int .u64 0) (.int .u64 0) (.int .u64 0) := Row5.keep hbb (by repeat (first | (with_reducible exact Ra) | (with_reducible refine Row5.alloc ?_ _) | (with_reducible refine Row5.drew ?_) | (with_reducible refine Row5.drewN ?_ _))); have Xb : Row5 wb w.heap.size (.bool false) (.int .u64 (lb 0 x)) (.int .u64 (lb 1 x)) (.int .u64 (lb 2 x)) (.int .u64 (lb 3 x)) := Row5.keep hbb (by repeat (first | (with_reducible exact Xa) | (with_reducible refine Row5.alloc ?_ _) | (with_reducible refine Row5.drew ?_) | (with_reducible refine Row5.drewN ?_ _))); obtain ⟨rb0, rb1, rb2, rb3, rb4⟩ := Rb.parts; obtain ⟨rg0, rg1, rg2, rg3, rg4⟩ := Rb.free; have ltb := Rb.lt; have ltc := Xb.lt; have nbx : ¬ w.heap.size + 1 = w.heap.size := by omega))
  all_goals
    go_wp2
    exact bodyPost_ret (v := .tuple #[.agg #[.bool h, .int .u64 y0, .int .u64 y1, .int .u64 y2, .int .u64 y3], .bool b]) (by simp [results, Tryd.results49, go_sem, rb0, rb1, rb2, rb3, rb4]) rfl ⟨rfl, by repeat (first | (with_reducible exact bb) | (with_reducible refine bal ?_ _) | (with_reducible refine Below.drew ?_) | (with_reducible refine bdn ?_ _) | ((with_reducible refine bsc ?_ ?_ _); rotate_left; (focus (simp only []; omega))))⟩
set_option maxHeartbeats 4000000 in
set_option maxRecDepth 100000 in
theorem rnear_cut_false (x : Nat) (hx : x < 2 ^ 256) (h : Bool) (y0 y1 y2 y3 : Int) (b : Bool) (L k q v : Nat) (hk : (L : Int) - 53 = (k : Int)) (hk2 : k ≤ 300) (w : World)
    (k1 : ∀ W, Calls Tryd.prog 29 #[I5 false x] W fun e w' => e = .returned (.bool true) ∧ Below W.heap.size W w')
    (k2 : ∀ W, Calls Tryd.prog 54 #[I5 false x] W fun e w' => e = .returned (.bool false) ∧ Below W.heap.size W w')
    (k3 : ∀ s' W, DR W s' x → Calls Tryd.prog 12 #[s'] W fun e w' => e = .returned (.int .i64 (L : Int)) ∧ Below W.heap.size W w')
    (k4 : ∀ s' W, DR W s' x → Calls Tryd.prog 13 #[s', .int .i64 (-(k : Int))] W fun e w' => ∃ s2, e = .returned s2 ∧ DR w' s2 q ∧ Below W.heap.size W w')
    (k5 : ∀ s' W, DR W s' q → Calls Tryd.prog 13 #[s', .int .i64 (k : Int)] W fun e w' => ∃ s2, e = .returned s2 ∧ DR w' s2 v ∧ Below W.heap.size W w')
    (kw : ∀ s' W, DR W s' v → Calls Tryd.prog 85 #[.bool false, s'] W fun e w' => e = .returned (.tuple #[.agg #[.bool h, .int .u64 y0, .int .u64 y1, .int .u64 y2, .int .u64 y3], .bool b]) ∧ Below W.heap.size W w') :
    Calls Tryd.prog 49 #[I5 false x, .bool false, .bool true] w fun e w' => e = .returned (.tuple #[.agg #[.bool h, .int .u64 y0, .int .u64 y1, .int .u64 y2, .int .u64 y3], .bool b]) ∧ Below w.heap.size w w' := by
  unfold I5 at *
  have HX := Lib.hid hx; have K1 := Lib.hid k1; have K2 := Lib.hid k2; have K3 := Lib.hid k3; have K4 := Lib.hid k4; have K5 := Lib.hid k5; have KW := Lib.hid kw; clear hx k1 k2 k3 k4 k5 kw
  have L1 := Lib.hid (digs_eight HX.out); have L2 := Lib.hid (digs_eight (show 1 < 2 ^ 256 by decide)); have L3 := Lib.hid (digs_eight (show 2 ^ 53 < 2 ^ 256 by decide))
  go_enter Tryd.func49, Tryd.ntmps49
  go_wp2_with fail
  refine (K1.out _).mono ?_
  rintro e w1 ⟨rfl, hb⟩
  have BW1 : Below w.heap.size w w1 := btr (by repeat (first | (with_reducible exact Below.refl _ _) | (with_reducible refine bal ?_ _) | (with_reducible refine Below.drew ?_) | (with_reducible refine bdn ?_ _))) hb
  have X1 : Row5 w1 w.heap.size (.bool false) (.int .u64 (lb 0 x)) (.int .u64 (lb 1 x)) (.int .u64 (lb 2 x)) (.int .u64 (lb 3 x)) := Row5.keep hb (by repeat (first | (with_reducible exact Row5.new _ _ _ _ _ _) | ((with_reducible refine Row5.new' _ ?_ _ _ _ _ _); (simp; done)) | (with_reducible refine Row5.alloc ?_ _) | (with_reducible refine Row5.drew ?_)))
  have R1 : Row5 w1 (w.heap.size + 1) (.bool false) (.int .u64 0) (.int .u64 0) (.int .u64 0) (.int .u64 0) := Row5.keep hb (by repeat (first | (with_reducible exact Row5.new _ _ _ _ _ _) | ((with_reducible refine Row5.new' _ ?_ _ _ _ _ _); (simp; done)) | (with_reducible refine Row5.alloc ?_ _) | (with_reducible refine Row5.drew ?_)))
  clear hb
  obtain ⟨Xc0, Xc1, Xc2, Xc3, Xc4⟩ := X1.parts
  obtain ⟨Xf0, Xf1, Xf2, Xf3, Xf4⟩ := X1.free
  go_wp2_with fail
  refine (K2.out _).mono ?_
  rintro e w2 ⟨rfl, hb⟩
  have BW2 : Below w.heap.size w w2 := btr (by repeat (first | (with_reducible exact BW1) | (with_reducible refine bal ?_ _) | (with_reducible refine Below.drew ?_) | (with_reducible refine bdn ?_ _))) hb
  have X2 : Row5 w2 w.heap.size (.bool false) (.int .u64 (lb 0 x)) (.int .u64 (lb 1 x)) (.int .u64 (lb 2 x)) (.int .u64 (lb 3 x)) := Row5.keep hb (by repeat (first | (with_reducible exact X1) | (with_reducible refine Row5.alloc ?_ _) | (with_reducible refine Row5.drew ?_)))
  have R2 : Row5 w2 (w.heap.size + 1) (.bool false) (.int .u64 0) (.int .u64 0) (.int .u64 0) (.int .u64 0) := Row5.keep hb (by repeat (first | (with_reducible exact R1) | (with_reducible refine Row5.alloc ?_ _) | (with_reducible refine Row5.drew ?_)))
  clear X1 R1
  clear BW1
  clear hb
  obtain ⟨Xc0, Xc1, Xc2, Xc3, Xc4⟩ := X2.parts
  obtain ⟨Xf0, Xf1, Xf2, Xf3, Xf4⟩ := X2.free
  go_wp2_with fail
  refine (rof x HX.out _).mono ?_
  rintro e w3 ⟨s1, rfl, hr, hb⟩
  have hbX : Below w2.heap.size w2 w3 := btr (by repeat (first | (with_reducible exact Below.refl _ _) | (with_reducible refine bal ?_ _) | (with_reducible refine Below.drew ?_) | (with_reducible refine bdn ?_ _))) hb
  clear hbX
  have DX3 : DR w3 s1 x := hr
  clear hr
  have BW3 : Below w.heap.size w w3 := btr (by repeat (first | (with_reducible exact BW2) | (with_reducible refine bal ?_ _) | (with_reducible refine Below.drew ?_) | (with_reducible refine bdn ?_ _))) hb
  have X3 : Row5 w3 w.heap.size (.bool false) (.int .u64 (lb 0 x)) (.int .u64 (lb 1 x)) (.int .u64 (lb 2 x)) (.int .u64 (lb 3 x)) := Row5.keep hb (by repeat (first | (with_reducible exact X2) | (with_reducible refine Row5.alloc ?_ _) | (with_reducible refine Row5.drew ?_)))
  have R3 : Row5 w3 (w.heap.size + 1) (.bool false) (.int .u64 0) (.int .u64 0) (.int .u64 0) (.int .u64 0) := Row5.keep hb (by repeat (first | (with_reducible exact R2) | (with_reducible refine Row5.alloc ?_ _) | (with_reducible refine Row5.drew ?_)))
  clear X2 R2
  clear BW2
  clear hb
  obtain ⟨Xc0, Xc1, Xc2, Xc3, Xc4⟩ := X3.parts
  obtain ⟨Xf0, Xf1, Xf2, Xf3, Xf4⟩ := X3.free
  go_wp2_with fail
  refine (K3.out _ _ (DR.keep (by repeat (first | (with_reducible exact Below.refl _ _) | (with_reducible refine bal ?_ _) | (with_reducible refine Below.drew ?_) | (with_reducible refine bdn ?_ _))) DX3)).mono ?_
  rintro e w4 ⟨rfl, hb⟩
  have hbX : Below w3.heap.size w3 w4 := btr (by repeat (first | (with_reducible exact Below.refl _ _) | (with_reducible refine bal ?_ _) | (with_reducible refine Below.drew ?_) | (with_reducible refine bdn ?_ _))) hb
  have DX4 : DR w4 s1 x := DR.keep hbX DX3
  clear DX3
  clear hbX
  have BW4 : Below w.heap.size w w4 := btr (by repeat (first | (with_reducible exact BW3) | (with_reducible refine bal ?_ _) | (with_reducible refine Below.drew ?_) | (with_reducible refine bdn ?_ _))) hb
  have X4 : Row5 w4 w.heap.size (.bool false) (.int .u64 (lb 0 x)) (.int .u64 (lb 1 x)) (.int .u64 (lb 2 x)) (.int .u64 (lb 3 x)) := Row5.keep hb (by repeat (first | (with_reducible exact X3) | (with_reducible refine Row5.alloc ?_ _) | (with_reducible refine Row5.drew ?_)))
  have R4 : Row5 w4 (w.heap.size + 1) (.bool false) (.int .u64 0) (.int .u64 0) (.int .u64 0) (.int .u64 0) := Row5.keep hb (by repeat (first | (with_reducible exact R3) | (with_reducible refine Row5.alloc ?_ _) | (with_reducible refine Row5.drew ?_)))
  clear X3 R3
  clear BW3
  clear hb
  go_wp2_with fail
  refine (K4.out _ _ (DR.keep (by repeat (first | (with_reducible exact Below.refl _ _) | (with_reducible refine bal ?_ _) | (with_reducible refine Below.drew ?_) | (with_reducible refine bdn ?_ _))) DX4)).mono ?_
  rintro e w5 ⟨s2, rfl, hr, hb⟩
  have hbX : Below w4.heap.size w4 w5 := btr (by repeat (first | (with_reducible exact Below.refl _ _) | (with_reducible refine bal ?_ _) | (with_reducible refine Below.drew ?_) | (with_reducible refine bdn ?_ _))) hb
  have DX5 : DR w5 s1 x := DR.keep hbX DX4
  clear DX4
  clear hbX
  have DQ5 : DR w5 s2 q := hr
  clear hr
  have BW5 : Below w.heap.size w w5 := btr (by repeat (first | (with_reducible exact BW4) | (with_reducible refine bal ?_ _) | (with_reducible refine Below.drew ?_) | (with_reducible refine bdn ?_ _))) hb
  have X5 : Row5 w5 w.heap.size (.bool false) (.int .u64 (lb 0 x)) (.int .u64 (lb 1 x)) (.int .u64 (lb 2 x)) (.int .u64 (lb 3 x)) := Row5.keep hb (by repeat (first | (with_reducible exact X4) | (with_reducible refine Row5.alloc ?_ _) | (with_reducible refine Row5.drew ?_)))
  have R5 : Row5 w5 (w.heap.size + 1) (.bool false) (.int .u64 0) (.int .u64 0) (.int .u64 0) (.int .u64 0) := Row5.keep hb (by repeat (first | (with_reducible exact R4) | (with_reducible refine Row5.alloc ?_ _) | (with_reducible refine Row5.drew ?_)))
  clear X4 R4
  clear BW4
  clear hb
  go_upto_region 12 with (fail)
  go_name_world w6 hw6
  have BW6 : Below w.heap.size w w6 := by rw [← hw6]; repeat (first | (with_reducible exact BW5) | (with_reducible refine bal ?_ _) | (with_reducible refine Below.drew ?_) | (with_reducible refine bdn ?_ _))
  have hbX : Below w5.heap.size w5 w6 := by rw [← hw6]; repeat (first | (with_reducible exact Below.refl _ _) | (with_reducible refine bal ?_ _) | (with_reducible refine Below.drew ?_) | (with_reducible refine bdn ?_ _))
  have DX6 : DR w6 s1 x := DR.keep hbX DX5
  have DQ6 : DR w6 s2 q := DR.keep hbX DQ5
  clear hbX DX5 DQ5
  have X6 : Row5 w6 w.heap.size (.bool false) (.int .u64 (lb 0 x)) (.int .u64 (lb 1 x)) (.int .u64 (lb 2 x)) (.int .u64 (lb 3 x)) := by rw [← hw6]; exact (by repeat (first | (with_reducible exact X5) | (with_reducible refine Row5.alloc ?_ _) | (with_reducible refine Row5.drew ?_)))
  have R6 : Row5 w6 (w.heap.size + 1) (.bool false) (.int .u64 0) (.int .u64 0) (.int .u64 0) (.int .u64 0) := by rw [← hw6]; exact (by repeat (first | (with_reducible exact R5) | (with_reducible refine Row5.alloc ?_ _) | (with_reducible refine Row5.drew ?_)))
  clear X5 R5
  clear BW5
  clear hw6
  have lt_X := X6.lt
  have lt_R := R6.lt
  go_region_held3 (fun w' => w'.cell? ⟨w.heap.size, 0, none⟩ = some (.bool false) ∧ w'.cell? ⟨w.heap.size, 1, none⟩ = some (.int .u64 (lb 0 x)) ∧ w'.cell? ⟨w.heap.size, 2, none⟩ = some (.int .u64 (lb 1 x)) ∧ w'.cell? ⟨w.heap.size, 3, none⟩ = some (.int .u64 (lb 2 x)) ∧ w'.cell? ⟨w.heap.size, 4, none⟩ = some (.int .u64 (lb 3 x)))
    ((refine Row5.parts ?_; (repeat (first | (with_reducible assumption) | (with_reducible refine Row5.alloc ?_ _) | (with_reducible refine Row5.drew ?_) | (with_reducible refine Row5.drewN ?_ _) | ((with_reducible refine Row5.set ?_ ?_ _); rotate_left; (focus (omega))))); done))
    (first | (go_at_call 13; (with_reducible refine (K5.out _ _ (DR.keep (by repeat (first | (with_reducible exact Below.refl _ _) | (with_reducible refine bal ?_ _) | (with_reducible refine Below.drew ?_) | (with_reducible refine bdn ?_ _))) DQ6)).mono ?_); rintro e wa ⟨sa, rfl, hra, hba⟩; have ba : Below w.heap.size w wa := btr (by repeat (first | (with_reducible exact BW6) | (with_reducible refine bal ?_ _) | (with_reducible refine Below.drew ?_) | (with_reducible refine bdn ?_ _))) hba; have Xa : Row5 wa w.heap.size (.bool false) (.int .u64 (lb 0 x)) (.int .u64 (lb 1 x)) (.int .u64 (lb 2 x)) (.int .u64 (lb 3 x)) := Row5.keep hba (by repeat (first | (with_reducible exact X6) | (with_reducible refine Row5.alloc ?_ _) | (with_reducible refine Row5.drew ?_) | (with_reducible refine Row5.drewN ?_ _))); have Ra : Row5 wa (w.heap.size + 1) (.bool false) (.int .u64 0) (.int .u64 0) (.int .u64 0) (.int .u64 0) := Row5.keep hba (by repeat (first | (with_reducible exact R6) | (with_reducible refine Row5.alloc ?_ _) | (with_reducible refine Row5.drew ?_) | (with_reducible refine Row5.drewN ?_ _))); obtain ⟨xa0, xa1, xa2, xa3, xa4⟩ := Xa.parts) | (go_at_call 85; (with_reducible refine (KW.out _ _ (DR.keep (by repeat (first | (with_reducible exact Below.refl _ _) | (with_reducible refine bal ?_ _) | (with_reducible refine Below.drew ?_) | (with_reducible refine bdn ?_ _))) hra)).mono ?_); rintro e wb ⟨rfl, hbb⟩; have bb : Below w.heap.size w wb := btr (by repeat (first | (with_reducible exact ba) | (with_reducible refine bal ?_ _) | (with_reducible refine Below.drew ?_) | (with_reducible refine bdn ?_ _))) hbb; have Rb : Row5 wb (w.heap.size + 1) (.bool false) (.int .u64 0) (.int .u64 0) (.int .u64 0) (.int .u64 0) := Row5.keep hbb (by repeat (first | (with_reducible exact Ra) | (with_reducible refine Row5.alloc ?_ _) | (with_reducible refine Row5.drew ?_) | (with_reducible refine Row5.drewN ?_ _))); have Xb : Row5 wb w.heap.size (.bool false) (.int .u64 (lb 0 x)) (.int .u64 (lb 1 x)) (.int .u64 (lb 2 x)) (.int .u64 (lb 3 x)) := Row5.keep hbb (by repeat (first | (with_reducible exact Xa) | (with_reducible refine Row5.alloc ?_ _) | (with_reducible refine Row5.drew ?_) | (with_reducible refine Row5.drewN ?_ _))); obtain ⟨rb0, rb1, rb2, rb3, rb4⟩ := Rb.parts; obtain ⟨rg0, rg1, rg2, rg3, rg4⟩ := Rb.free; have ltb := Rb.lt; have ltc := Xb.lt; have nbx : ¬ w.heap.size + 1 = w.heap.size := by omega))
  all_goals
    go_wp2
    exact bodyPost_ret (v := .tuple #[.agg #[.bool h, .int .u64 y0, .int .u64 y1, .int .u64 y2, .int .u64 y3], .bool b]) (by simp [results, Tryd.results49, go_sem, rb0, rb1, rb2, rb3, rb4]) rfl ⟨rfl, by repeat (first | (with_reducible exact bb) | (with_reducible refine bal ?_ _) | (with_reducible refine Below.drew ?_) | (with_reducible refine bdn ?_ _) | ((with_reducible refine bsc ?_ ?_ _); rotate_left; (focus (simp only []; omega))))⟩
set_option maxHeartbeats 4000000 in
set_option maxRecDepth 100000 in
theorem rnear_least_false (x : Nat) (hx : x < 2 ^ 256) (h : Bool) (y0 y1 y2 y3 : Int) (b : Bool) (L : Nat) (hL : (L : Int) ≤ 53) (w : World)
    (k1 : ∀ W, Calls Tryd.prog 29 #[I5 false x] W fun e w' => e = .returned (.bool true) ∧ Below W.heap.size W w')
    (k2 : ∀ W, Calls Tryd.prog 54 #[I5 false x] W fun e w' => e = .returned (.bool true) ∧ Below W.heap.size W w')
    (k3 : ∀ s' W, DR W s' x → Calls Tryd.prog 12 #[s'] W fun e w' => e = .returned (.int .i64 (L : Int)) ∧ Below W.heap.size W w')
    (kw : ∀ s' W, DR W s' 9007199254740993 → Calls Tryd.prog 85 #[.bool false, s'] W fun e w' => e = .returned (.tuple #[.agg #[.bool h, .int .u64 y0, .int .u64 y1, .int .u64 y2, .int .u64 y3], .bool b]) ∧ Below W.heap.size W w') :
    Calls Tryd.prog 49 #[I5 false x, .bool true, .bool false] w fun e w' => e = .returned (.tuple #[.agg #[.bool h, .int .u64 y0, .int .u64 y1, .int .u64 y2, .int .u64 y3], .bool b]) ∧ Below w.heap.size w w' := by
  unfold I5 at *
  have HX := Lib.hid hx; have K1 := Lib.hid k1; have K2 := Lib.hid k2; have K3 := Lib.hid k3; have KW := Lib.hid kw; clear hx k1 k2 k3 kw
  have L1 := Lib.hid (digs_eight HX.out); have L2 := Lib.hid (digs_eight (show 1 < 2 ^ 256 by decide)); have L3 := Lib.hid (digs_eight (show 2 ^ 53 < 2 ^ 256 by decide))
  go_enter Tryd.func49, Tryd.ntmps49
  go_wp2_with fail
  refine (K1.out _).mono ?_
  rintro e w1 ⟨rfl, hb⟩
  have BW1 : Below w.heap.size w w1 := btr (by repeat (first | (with_reducible exact Below.refl _ _) | (with_reducible refine bal ?_ _) | (with_reducible refine Below.drew ?_) | (with_reducible refine bdn ?_ _))) hb
  have X1 : Row5 w1 w.heap.size (.bool false) (.int .u64 (lb 0 x)) (.int .u64 (lb 1 x)) (.int .u64 (lb 2 x)) (.int .u64 (lb 3 x)) := Row5.keep hb (by repeat (first | (with_reducible exact Row5.new _ _ _ _ _ _) | ((with_reducible refine Row5.new' _ ?_ _ _ _ _ _); (simp; done)) | (with_reducible refine Row5.alloc ?_ _) | (with_reducible refine Row5.drew ?_)))
  have R1 : Row5 w1 (w.heap.size + 1) (.bool false) (.int .u64 0) (.int .u64 0) (.int .u64 0) (.int .u64 0) := Row5.keep hb (by repeat (first | (with_reducible exact Row5.new _ _ _ _ _ _) | ((with_reducible refine Row5.new' _ ?_ _ _ _ _ _); (simp; done)) | (with_reducible refine Row5.alloc ?_ _) | (with_reducible refine Row5.drew ?_)))
  clear hb
  obtain ⟨Xc0, Xc1, Xc2, Xc3, Xc4⟩ := X1.parts
  obtain ⟨Xf0, Xf1, Xf2, Xf3, Xf4⟩ := X1.free
  go_wp2_with fail
  refine (K2.out _).mono ?_
  rintro e w2 ⟨rfl, hb⟩
  have BW2 : Below w.heap.size w w2 := btr (by repeat (first | (with_reducible exact BW1) | (with_reducible refine bal ?_ _) | (with_reducible refine Below.drew ?_) | (with_reducible refine bdn ?_ _))) hb
  have X2 : Row5 w2 w.heap.size (.bool false) (.int .u64 (lb 0 x)) (.int .u64 (lb 1 x)) (.int .u64 (lb 2 x)) (.int .u64 (lb 3 x)) := Row5.keep hb (by repeat (first | (with_reducible exact X1) | (with_reducible refine Row5.alloc ?_ _) | (with_reducible refine Row5.drew ?_)))
  have R2 : Row5 w2 (w.heap.size + 1) (.bool false) (.int .u64 0) (.int .u64 0) (.int .u64 0) (.int .u64 0) := Row5.keep hb (by repeat (first | (with_reducible exact R1) | (with_reducible refine Row5.alloc ?_ _) | (with_reducible refine Row5.drew ?_)))
  clear X1 R1
  clear BW1
  clear hb
  obtain ⟨Xc0, Xc1, Xc2, Xc3, Xc4⟩ := X2.parts
  obtain ⟨Xf0, Xf1, Xf2, Xf3, Xf4⟩ := X2.free
  go_wp2_with fail
  refine (rof x HX.out _).mono ?_
  rintro e w3 ⟨s1, rfl, hr, hb⟩
  have hbX : Below w2.heap.size w2 w3 := btr (by repeat (first | (with_reducible exact Below.refl _ _) | (with_reducible refine bal ?_ _) | (with_reducible refine Below.drew ?_) | (with_reducible refine bdn ?_ _))) hb
  clear hbX
  have DX3 : DR w3 s1 x := hr
  clear hr
  have BW3 : Below w.heap.size w w3 := btr (by repeat (first | (with_reducible exact BW2) | (with_reducible refine bal ?_ _) | (with_reducible refine Below.drew ?_) | (with_reducible refine bdn ?_ _))) hb
  have X3 : Row5 w3 w.heap.size (.bool false) (.int .u64 (lb 0 x)) (.int .u64 (lb 1 x)) (.int .u64 (lb 2 x)) (.int .u64 (lb 3 x)) := Row5.keep hb (by repeat (first | (with_reducible exact X2) | (with_reducible refine Row5.alloc ?_ _) | (with_reducible refine Row5.drew ?_)))
  have R3 : Row5 w3 (w.heap.size + 1) (.bool false) (.int .u64 0) (.int .u64 0) (.int .u64 0) (.int .u64 0) := Row5.keep hb (by repeat (first | (with_reducible exact R2) | (with_reducible refine Row5.alloc ?_ _) | (with_reducible refine Row5.drew ?_)))
  clear X2 R2
  clear BW2
  clear hb
  obtain ⟨Xc0, Xc1, Xc2, Xc3, Xc4⟩ := X3.parts
  obtain ⟨Xf0, Xf1, Xf2, Xf3, Xf4⟩ := X3.free
  go_wp2_with fail
  refine ((rpow_53 _)).mono ?_
  rintro e w4 ⟨s2, rfl, hr, hb⟩
  have hbX : Below w3.heap.size w3 w4 := btr (by repeat (first | (with_reducible exact Below.refl _ _) | (with_reducible refine bal ?_ _) | (with_reducible refine Below.drew ?_) | (with_reducible refine bdn ?_ _))) hb
  have DX4 : DR w4 s1 x := DR.keep hbX DX3
  clear DX3
  clear hbX
  have DP4 : DR w4 s2 (2 ^ 53) := hr
  clear hr
  have BW4 : Below w.heap.size w w4 := btr (by repeat (first | (with_reducible exact BW3) | (with_reducible refine bal ?_ _) | (with_reducible refine Below.drew ?_) | (with_reducible refine bdn ?_ _))) hb
  have X4 : Row5 w4 w.heap.size (.bool false) (.int .u64 (lb 0 x)) (.int .u64 (lb 1 x)) (.int .u64 (lb 2 x)) (.int .u64 (lb 3 x)) := Row5.keep hb (by repeat (first | (with_reducible exact X3) | (with_reducible refine Row5.alloc ?_ _) | (with_reducible refine Row5.drew ?_)))
  have R4 : Row5 w4 (w.heap.size + 1) (.bool false) (.int .u64 0) (.int .u64 0) (.int .u64 0) (.int .u64 0) := Row5.keep hb (by repeat (first | (with_reducible exact R3) | (with_reducible refine Row5.alloc ?_ _) | (with_reducible refine Row5.drew ?_)))
  clear X3 R3
  clear BW3
  clear hb
  go_wp2_with fail
  refine (radd_least (DR.keep (by repeat (first | (with_reducible exact Below.refl _ _) | (with_reducible refine bal ?_ _) | (with_reducible refine Below.drew ?_) | (with_reducible refine bdn ?_ _))) DP4) (DR.keep (by repeat (first | (with_reducible exact Below.refl _ _) | (with_reducible refine bal ?_ _) | (with_reducible refine Below.drew ?_) | (with_reducible refine bdn ?_ _))) (ten_new w4 1 (by decide) (by decide) 1 rfl)) L3.out L2.out).mono ?_
  rintro e w5 ⟨s3, rfl, hr, hb⟩
  have hbX : Below w4.heap.size w4 w5 := btr (by repeat (first | (with_reducible exact Below.refl _ _) | (with_reducible refine bal ?_ _) | (with_reducible refine Below.drew ?_) | (with_reducible refine bdn ?_ _))) hb
  have DX5 : DR w5 s1 x := DR.keep hbX DX4
  have DP5 : DR w5 s2 (2 ^ 53) := DR.keep hbX DP4
  clear DX4 DP4
  clear hbX
  have DL5 : DR w5 s3 9007199254740993 := hr
  clear hr
  have BW5 : Below w.heap.size w w5 := btr (by repeat (first | (with_reducible exact BW4) | (with_reducible refine bal ?_ _) | (with_reducible refine Below.drew ?_) | (with_reducible refine bdn ?_ _))) hb
  have X5 : Row5 w5 w.heap.size (.bool false) (.int .u64 (lb 0 x)) (.int .u64 (lb 1 x)) (.int .u64 (lb 2 x)) (.int .u64 (lb 3 x)) := Row5.keep hb (by repeat (first | (with_reducible exact X4) | (with_reducible refine Row5.alloc ?_ _) | (with_reducible refine Row5.drew ?_)))
  have R5 : Row5 w5 (w.heap.size + 1) (.bool false) (.int .u64 0) (.int .u64 0) (.int .u64 0) (.int .u64 0) := Row5.keep hb (by repeat (first | (with_reducible exact R4) | (with_reducible refine Row5.alloc ?_ _) | (with_reducible refine Row5.drew ?_)))
  clear X4 R4
  clear BW4
  clear hb
  go_wp2_with fail
  refine (K3.out _ _ (DR.keep (by repeat (first | (with_reducible exact Below.refl _ _) | (with_reducible refine bal ?_ _) | (with_reducible refine Below.drew ?_) | (with_reducible refine bdn ?_ _))) DX5)).mono ?_
  rintro e w6 ⟨rfl, hb⟩
  have hbX : Below w5.heap.size w5 w6 := btr (by repeat (first | (with_reducible exact Below.refl _ _) | (with_reducible refine bal ?_ _) | (with_reducible refine Below.drew ?_) | (with_reducible refine bdn ?_ _))) hb
  have DX6 : DR w6 s1 x := DR.keep hbX DX5
  have DP6 : DR w6 s2 (2 ^ 53) := DR.keep hbX DP5
  have DL6 : DR w6 s3 9007199254740993 := DR.keep hbX DL5
  clear DX5 DP5 DL5
  clear hbX
  have BW6 : Below w.heap.size w w6 := btr (by repeat (first | (with_reducible exact BW5) | (with_reducible refine bal ?_ _) | (with_reducible refine Below.drew ?_) | (with_reducible refine bdn ?_ _))) hb
  have X6 : Row5 w6 w.heap.size (.bool false) (.int .u64 (lb 0 x)) (.int .u64 (lb 1 x)) (.int .u64 (lb 2 x)) (.int .u64 (lb 3 x)) := Row5.keep hb (by repeat (first | (with_reducible exact X5) | (with_reducible refine Row5.alloc ?_ _) | (with_reducible refine Row5.drew ?_)))
  have R6 : Row5 w6 (w.heap.size + 1) (.bool false) (.int .u64 0) (.int .u64 0) (.int .u64 0) (.int .u64 0) := Row5.keep hb (by repeat (first | (with_reducible exact R5) | (with_reducible refine Row5.alloc ?_ _) | (with_reducible refine Row5.drew ?_)))
  clear X5 R5
  clear BW5
  clear hb
  obtain ⟨Xc0, Xc1, Xc2, Xc3, Xc4⟩ := X6.parts
  obtain ⟨Xf0, Xf1, Xf2, Xf3, Xf4⟩ := X6.free
  go_wp2_with fail
  refine (KW.out _ _ (DR.keep (by repeat (first | (with_reducible exact Below.refl _ _) | (with_reducible refine bal ?_ _) | (with_reducible refine Below.drew ?_) | (with_reducible refine bdn ?_ _))) DL6)).mono ?_
  rintro e w7 ⟨rfl, hb⟩
  have hbX : Below w6.heap.size w6 w7 := btr (by repeat (first | (with_reducible exact Below.refl _ _) | (with_reducible refine bal ?_ _) | (with_reducible refine Below.drew ?_) | (with_reducible refine bdn ?_ _))) hb
  have DX7 : DR w7 s1 x := DR.keep hbX DX6
  have DP7 : DR w7 s2 (2 ^ 53) := DR.keep hbX DP6
  have DL7 : DR w7 s3 9007199254740993 := DR.keep hbX DL6
  clear DX6 DP6 DL6
  clear hbX
  have BW7 : Below w.heap.size w w7 := btr (by repeat (first | (with_reducible exact BW6) | (with_reducible refine bal ?_ _) | (with_reducible refine Below.drew ?_) | (with_reducible refine bdn ?_ _))) hb
  have X7 : Row5 w7 w.heap.size (.bool false) (.int .u64 (lb 0 x)) (.int .u64 (lb 1 x)) (.int .u64 (lb 2 x)) (.int .u64 (lb 3 x)) := Row5.keep hb (by repeat (first | (with_reducible exact X6) | (with_reducible refine Row5.alloc ?_ _) | (with_reducible refine Row5.drew ?_)))
  have R7 : Row5 w7 (w.heap.size + 1) (.bool false) (.int .u64 0) (.int .u64 0) (.int .u64 0) (.int .u64 0) := Row5.keep hb (by repeat (first | (with_reducible exact R6) | (with_reducible refine Row5.alloc ?_ _) | (with_reducible refine Row5.drew ?_)))
  clear X6 R6
  clear BW6
  clear hb
  obtain ⟨Rc0, Rc1, Rc2, Rc3, Rc4⟩ := R7.parts
  obtain ⟨Rf0, Rf1, Rf2, Rf3, Rf4⟩ := R7.free
  have lt_R := R7.lt
  go_wp2
  exact bodyPost_ret (v := .tuple #[.agg #[.bool h, .int .u64 y0, .int .u64 y1, .int .u64 y2, .int .u64 y3], .bool b]) (by simp [results, Tryd.results49, go_sem, Rc0, Rc1, Rc2, Rc3, Rc4]) rfl ⟨rfl, by repeat (first | (with_reducible exact BW7) | (with_reducible refine bal ?_ _) | (with_reducible refine Below.drew ?_) | (with_reducible refine bdn ?_ _) | ((with_reducible refine bsc ?_ ?_ _); rotate_left; (focus (simp only []; omega))))⟩
set_option maxHeartbeats 4000000 in
set_option maxRecDepth 100000 in
theorem rnear_grow_false (x : Nat) (hx : x < 2 ^ 256) (h : Bool) (y0 y1 y2 y3 : Int) (b : Bool) (L : Nat) (hL : 53 < (L : Int)) (w : World)
    (k1 : ∀ W, Calls Tryd.prog 29 #[I5 false x] W fun e w' => e = .returned (.bool true) ∧ Below W.heap.size W w')
    (k2 : ∀ W, Calls Tryd.prog 54 #[I5 false x] W fun e w' => e = .returned (.bool true) ∧ Below W.heap.size W w')
    (k3 : ∀ s' W, DR W s' x → Calls Tryd.prog 12 #[s'] W fun e w' => e = .returned (.int .i64 (L : Int)) ∧ Below W.heap.size W w')
    (kw : ∀ s' W, DR W s' (x + 1) → Calls Tryd.prog 85 #[.bool false, s'] W fun e w' => e = .returned (.tuple #[.agg #[.bool h, .int .u64 y0, .int .u64 y1, .int .u64 y2, .int .u64 y3], .bool b]) ∧ Below W.heap.size W w')
    (ko : ∀ W, Calls Tryd.prog 92 #[.agg #[.bool h, .int .u64 y0, .int .u64 y1, .int .u64 y2, .int .u64 y3], .bool b, .bool true] W fun e w' => e = .returned (.tuple #[.agg #[.bool h, .int .u64 y0, .int .u64 y1, .int .u64 y2, .int .u64 y3], .bool b]) ∧ Below W.heap.size W w') :
    Calls Tryd.prog 49 #[I5 false x, .bool true, .bool false] w fun e w' => e = .returned (.tuple #[.agg #[.bool h, .int .u64 y0, .int .u64 y1, .int .u64 y2, .int .u64 y3], .bool b]) ∧ Below w.heap.size w w' := by
  unfold I5 at *
  have HX := Lib.hid hx; have K1 := Lib.hid k1; have K2 := Lib.hid k2; have K3 := Lib.hid k3; have KW := Lib.hid kw; have KO := Lib.hid ko; clear hx k1 k2 k3 kw ko
  have L1 := Lib.hid (digs_eight HX.out); have L2 := Lib.hid (digs_eight (show 1 < 2 ^ 256 by decide)); have L3 := Lib.hid (digs_eight (show 2 ^ 53 < 2 ^ 256 by decide))
  go_enter Tryd.func49, Tryd.ntmps49
  go_wp2_with fail
  refine (K1.out _).mono ?_
  rintro e w1 ⟨rfl, hb⟩
  have BW1 : Below w.heap.size w w1 := btr (by repeat (first | (with_reducible exact Below.refl _ _) | (with_reducible refine bal ?_ _) | (with_reducible refine Below.drew ?_) | (with_reducible refine bdn ?_ _))) hb
  have X1 : Row5 w1 w.heap.size (.bool false) (.int .u64 (lb 0 x)) (.int .u64 (lb 1 x)) (.int .u64 (lb 2 x)) (.int .u64 (lb 3 x)) := Row5.keep hb (by repeat (first | (with_reducible exact Row5.new _ _ _ _ _ _) | ((with_reducible refine Row5.new' _ ?_ _ _ _ _ _); (simp; done)) | (with_reducible refine Row5.alloc ?_ _) | (with_reducible refine Row5.drew ?_)))
  have R1 : Row5 w1 (w.heap.size + 1) (.bool false) (.int .u64 0) (.int .u64 0) (.int .u64 0) (.int .u64 0) := Row5.keep hb (by repeat (first | (with_reducible exact Row5.new _ _ _ _ _ _) | ((with_reducible refine Row5.new' _ ?_ _ _ _ _ _); (simp; done)) | (with_reducible refine Row5.alloc ?_ _) | (with_reducible refine Row5.drew ?_)))
  clear hb
  obtain ⟨Xc0, Xc1, Xc2, Xc3, Xc4⟩ := X1.parts
  obtain ⟨Xf0, Xf1, Xf2, Xf3, Xf4⟩ := X1.free
  go_wp2_with fail
  refine (K2.out _).mono ?_
  rintro e w2 ⟨rfl, hb⟩
  have BW2 : Below w.heap.size w w2 := btr (by repeat (first | (with_reducible exact BW1) | (with_reducible refine bal ?_ _) | (with_reducible refine Below.drew ?_) | (with_reducible refine bdn ?_ _))) hb
  have X2 : Row5 w2 w.heap.size (.bool false) (.int .u64 (lb 0 x)) (.int .u64 (lb 1 x)) (.int .u64 (lb 2 x)) (.int .u64 (lb 3 x)) := Row5.keep hb (by repeat (first | (with_reducible exact X1) | (with_reducible refine Row5.alloc ?_ _) | (with_reducible refine Row5.drew ?_)))
  have R2 : Row5 w2 (w.heap.size + 1) (.bool false) (.int .u64 0) (.int .u64 0) (.int .u64 0) (.int .u64 0) := Row5.keep hb (by repeat (first | (with_reducible exact R1) | (with_reducible refine Row5.alloc ?_ _) | (with_reducible refine Row5.drew ?_)))
  clear X1 R1
  clear BW1
  clear hb
  obtain ⟨Xc0, Xc1, Xc2, Xc3, Xc4⟩ := X2.parts
  obtain ⟨Xf0, Xf1, Xf2, Xf3, Xf4⟩ := X2.free
  go_wp2_with fail
  refine (rof x HX.out _).mono ?_
  rintro e w3 ⟨s1, rfl, hr, hb⟩
  have hbX : Below w2.heap.size w2 w3 := btr (by repeat (first | (with_reducible exact Below.refl _ _) | (with_reducible refine bal ?_ _) | (with_reducible refine Below.drew ?_) | (with_reducible refine bdn ?_ _))) hb
  clear hbX
  have DX3 : DR w3 s1 x := hr
  clear hr
  have BW3 : Below w.heap.size w w3 := btr (by repeat (first | (with_reducible exact BW2) | (with_reducible refine bal ?_ _) | (with_reducible refine Below.drew ?_) | (with_reducible refine bdn ?_ _))) hb
  have X3 : Row5 w3 w.heap.size (.bool false) (.int .u64 (lb 0 x)) (.int .u64 (lb 1 x)) (.int .u64 (lb 2 x)) (.int .u64 (lb 3 x)) := Row5.keep hb (by repeat (first | (with_reducible exact X2) | (with_reducible refine Row5.alloc ?_ _) | (with_reducible refine Row5.drew ?_)))
  have R3 : Row5 w3 (w.heap.size + 1) (.bool false) (.int .u64 0) (.int .u64 0) (.int .u64 0) (.int .u64 0) := Row5.keep hb (by repeat (first | (with_reducible exact R2) | (with_reducible refine Row5.alloc ?_ _) | (with_reducible refine Row5.drew ?_)))
  clear X2 R2
  clear BW2
  clear hb
  obtain ⟨Xc0, Xc1, Xc2, Xc3, Xc4⟩ := X3.parts
  obtain ⟨Xf0, Xf1, Xf2, Xf3, Xf4⟩ := X3.free
  go_wp2_with fail
  refine ((rpow_53 _)).mono ?_
  rintro e w4 ⟨s2, rfl, hr, hb⟩
  have hbX : Below w3.heap.size w3 w4 := btr (by repeat (first | (with_reducible exact Below.refl _ _) | (with_reducible refine bal ?_ _) | (with_reducible refine Below.drew ?_) | (with_reducible refine bdn ?_ _))) hb
  have DX4 : DR w4 s1 x := DR.keep hbX DX3
  clear DX3
  clear hbX
  have DP4 : DR w4 s2 (2 ^ 53) := hr
  clear hr
  have BW4 : Below w.heap.size w w4 := btr (by repeat (first | (with_reducible exact BW3) | (with_reducible refine bal ?_ _) | (with_reducible refine Below.drew ?_) | (with_reducible refine bdn ?_ _))) hb
  have X4 : Row5 w4 w.heap.size (.bool false) (.int .u64 (lb 0 x)) (.int .u64 (lb 1 x)) (.int .u64 (lb 2 x)) (.int .u64 (lb 3 x)) := Row5.keep hb (by repeat (first | (with_reducible exact X3) | (with_reducible refine Row5.alloc ?_ _) | (with_reducible refine Row5.drew ?_)))
  have R4 : Row5 w4 (w.heap.size + 1) (.bool false) (.int .u64 0) (.int .u64 0) (.int .u64 0) (.int .u64 0) := Row5.keep hb (by repeat (first | (with_reducible exact R3) | (with_reducible refine Row5.alloc ?_ _) | (with_reducible refine Row5.drew ?_)))
  clear X3 R3
  clear BW3
  clear hb
  go_wp2_with fail
  refine (radd_least (DR.keep (by repeat (first | (with_reducible exact Below.refl _ _) | (with_reducible refine bal ?_ _) | (with_reducible refine Below.drew ?_) | (with_reducible refine bdn ?_ _))) DP4) (DR.keep (by repeat (first | (with_reducible exact Below.refl _ _) | (with_reducible refine bal ?_ _) | (with_reducible refine Below.drew ?_) | (with_reducible refine bdn ?_ _))) (ten_new w4 1 (by decide) (by decide) 1 rfl)) L3.out L2.out).mono ?_
  rintro e w5 ⟨s3, rfl, hr, hb⟩
  have hbX : Below w4.heap.size w4 w5 := btr (by repeat (first | (with_reducible exact Below.refl _ _) | (with_reducible refine bal ?_ _) | (with_reducible refine Below.drew ?_) | (with_reducible refine bdn ?_ _))) hb
  have DX5 : DR w5 s1 x := DR.keep hbX DX4
  have DP5 : DR w5 s2 (2 ^ 53) := DR.keep hbX DP4
  clear DX4 DP4
  clear hbX
  have DL5 : DR w5 s3 9007199254740993 := hr
  clear hr
  have BW5 : Below w.heap.size w w5 := btr (by repeat (first | (with_reducible exact BW4) | (with_reducible refine bal ?_ _) | (with_reducible refine Below.drew ?_) | (with_reducible refine bdn ?_ _))) hb
  have X5 : Row5 w5 w.heap.size (.bool false) (.int .u64 (lb 0 x)) (.int .u64 (lb 1 x)) (.int .u64 (lb 2 x)) (.int .u64 (lb 3 x)) := Row5.keep hb (by repeat (first | (with_reducible exact X4) | (with_reducible refine Row5.alloc ?_ _) | (with_reducible refine Row5.drew ?_)))
  have R5 : Row5 w5 (w.heap.size + 1) (.bool false) (.int .u64 0) (.int .u64 0) (.int .u64 0) (.int .u64 0) := Row5.keep hb (by repeat (first | (with_reducible exact R4) | (with_reducible refine Row5.alloc ?_ _) | (with_reducible refine Row5.drew ?_)))
  clear X4 R4
  clear BW4
  clear hb
  go_wp2_with fail
  refine (K3.out _ _ (DR.keep (by repeat (first | (with_reducible exact Below.refl _ _) | (with_reducible refine bal ?_ _) | (with_reducible refine Below.drew ?_) | (with_reducible refine bdn ?_ _))) DX5)).mono ?_
  rintro e w6 ⟨rfl, hb⟩
  have hbX : Below w5.heap.size w5 w6 := btr (by repeat (first | (with_reducible exact Below.refl _ _) | (with_reducible refine bal ?_ _) | (with_reducible refine Below.drew ?_) | (with_reducible refine bdn ?_ _))) hb
  have DX6 : DR w6 s1 x := DR.keep hbX DX5
  have DP6 : DR w6 s2 (2 ^ 53) := DR.keep hbX DP5
  have DL6 : DR w6 s3 9007199254740993 := DR.keep hbX DL5
  clear DX5 DP5 DL5
  clear hbX
  have BW6 : Below w.heap.size w w6 := btr (by repeat (first | (with_reducible exact BW5) | (with_reducible refine bal ?_ _) | (with_reducible refine Below.drew ?_) | (with_reducible refine bdn ?_ _))) hb
  have X6 : Row5 w6 w.heap.size (.bool false) (.int .u64 (lb 0 x)) (.int .u64 (lb 1 x)) (.int .u64 (lb 2 x)) (.int .u64 (lb 3 x)) := Row5.keep hb (by repeat (first | (with_reducible exact X5) | (with_reducible refine Row5.alloc ?_ _) | (with_reducible refine Row5.drew ?_)))
  have R6 : Row5 w6 (w.heap.size + 1) (.bool false) (.int .u64 0) (.int .u64 0) (.int .u64 0) (.int .u64 0) := Row5.keep hb (by repeat (first | (with_reducible exact R5) | (with_reducible refine Row5.alloc ?_ _) | (with_reducible refine Row5.drew ?_)))
  clear X5 R5
  clear BW5
  clear hb
  obtain ⟨Xc0, Xc1, Xc2, Xc3, Xc4⟩ := X6.parts
  obtain ⟨Xf0, Xf1, Xf2, Xf3, Xf4⟩ := X6.free
  go_upto_region 17 with (fail)
  go_name_world w7 hw7
  have BW7 : Below w.heap.size w w7 := by rw [← hw7]; repeat (first | (with_reducible exact BW6) | (with_reducible refine bal ?_ _) | (with_reducible refine Below.drew ?_) | (with_reducible refine bdn ?_ _))
  have hbX : Below w6.heap.size w6 w7 := by rw [← hw7]; repeat (first | (with_reducible exact Below.refl _ _) | (with_reducible refine bal ?_ _) | (with_reducible refine Below.drew ?_) | (with_reducible refine bdn ?_ _))
  have DX7 : DR w7 s1 x := DR.keep hbX DX6
  have DP7 : DR w7 s2 (2 ^ 53) := DR.keep hbX DP6
  have DL7 : DR w7 s3 9007199254740993 := DR.keep hbX DL6
  clear hbX DX6 DP6 DL6
  have X7 : Row5 w7 w.heap.size (.bool false) (.int .u64 (lb 0 x)) (.int .u64 (lb 1 x)) (.int .u64 (lb 2 x)) (.int .u64 (lb 3 x)) := by rw [← hw7]; exact (by repeat (first | (with_reducible exact X6) | (with_reducible refine Row5.alloc ?_ _) | (with_reducible refine Row5.drew ?_)))
  have R7 : Row5 w7 (w.heap.size + 1) (.bool false) (.int .u64 0) (.int .u64 0) (.int .u64 0) (.int .u64 0) := by rw [← hw7]; exact (by repeat (first | (with_reducible exact R6) | (with_reducible refine Row5.alloc ?_ _) | (with_reducible refine Row5.drew ?_)))
  clear X6 R6
  clear BW6
  clear hw7
  have lt_X := X7.lt
  have lt_R := R7.lt
  go_cut [13, 14] (fun s13 s14 wx => ∃ p : Nat, s13 = .pointer (some ⟨p, 0, none⟩) ∧ s14 = .bool b ∧ Row5 wx p (.bool h) (.int .u64 y0) (.int .u64 y1) (.int .u64 y2) (.int .u64 y3) ∧ w7.heap.size ≤ p ∧ Below w7.heap.size w7 wx)
  case first =>
    go_region_held3 (fun w' => w'.cell? ⟨w.heap.size, 0, none⟩ = some (.bool false) ∧ w'.cell? ⟨w.heap.size, 1, none⟩ = some (.int .u64 (lb 0 x)) ∧ w'.cell? ⟨w.heap.size, 2, none⟩ = some (.int .u64 (lb 1 x)) ∧ w'.cell? ⟨w.heap.size, 3, none⟩ = some (.int .u64 (lb 2 x)) ∧ w'.cell? ⟨w.heap.size, 4, none⟩ = some (.int .u64 (lb 3 x)))
      ((refine Row5.parts ?_; (repeat (first | (with_reducible assumption) | (with_reducible refine Row5.alloc ?_ _) | (with_reducible refine Row5.drew ?_) | ((with_reducible refine Row5.set ?_ ?_ _); rotate_left; (focus (omega))))); done))
      (first | (go_at_call 86; (with_reducible refine (radd (DR.keep (by repeat (first | (with_reducible exact Below.refl _ _) | (with_reducible refine bal ?_ _) | (with_reducible refine Below.drew ?_) | (with_reducible refine bdn ?_ _))) DX7) (DR.keep (by repeat (first | (with_reducible exact Below.refl _ _) | (with_reducible refine bal ?_ _) | (with_reducible refine Below.drew ?_) | (with_reducible refine bdn ?_ _))) (ten_at _ _ 1 1 (by first | rfl | (simp; done)) (by decide) (by decide) rfl)) L1.out L2.out).mono ?_); rintro e wf1 ⟨sa, rfl, hra, hb1⟩; have Xf1 : Row5 wf1 w.heap.size (.bool false) (.int .u64 (lb 0 x)) (.int .u64 (lb 1 x)) (.int .u64 (lb 2 x)) (.int .u64 (lb 3 x)) := Row5.keep hb1 (by repeat (first | (with_reducible assumption) | (with_reducible refine Row5.alloc ?_ _) | (with_reducible refine Row5.drew ?_))); have ltXf1 := Xf1.lt; (first | (refine absorb (P := Row5 wf1 w7.heap.size (.bool false) (.int .u64 0) (.int .u64 0) (.int .u64 0) (.int .u64 0)) (Row5.keep hb1 ?_) (fun Z1 => ?_); (focus ((repeat (first | ((with_reducible refine Row5.new' _ ?_ _ _ _ _ _); (simp; done)) | (with_reducible refine Row5.alloc ?_ _) | (with_reducible refine Row5.drew ?_))); done))) | (refine absorb (P := Row5 wf1 (w7.heap.size + 1) (.bool false) (.int .u64 0) (.int .u64 0) (.int .u64 0) (.int .u64 0)) (Row5.keep hb1 ?_) (fun Z1 => ?_); (focus ((repeat (first | ((with_reducible refine Row5.new' _ ?_ _ _ _ _ _); (simp; done)) | (with_reducible refine Row5.alloc ?_ _) | (with_reducible refine Row5.drew ?_))); done))) | skip); (first | (obtain ⟨zc0, zc1, zc2, zc3, zc4⟩ := Z1.parts; obtain ⟨zf0, zf1, zf2, zf3, zf4⟩ := Z1.free) | skip)) | (go_at_call 85; (with_reducible refine (KW.out _ _ (DR.keep (by repeat (first | (with_reducible exact Below.refl _ _) | (with_reducible refine bal ?_ _) | (with_reducible refine Below.drew ?_) | (with_reducible refine bdn ?_ _))) hra)).mono ?_); rintro e wf2 ⟨rfl, hb2⟩; have Xf2 : Row5 wf2 w.heap.size (.bool false) (.int .u64 (lb 0 x)) (.int .u64 (lb 1 x)) (.int .u64 (lb 2 x)) (.int .u64 (lb 3 x)) := Row5.keep hb2 (by repeat (first | (with_reducible assumption) | (with_reducible refine Row5.alloc ?_ _) | (with_reducible refine Row5.drew ?_))); have ltXf2 := Xf2.lt; (first | (refine absorb (P := Row5 wf2 w7.heap.size (.bool false) (.int .u64 0) (.int .u64 0) (.int .u64 0) (.int .u64 0)) (Row5.keep hb2 ?_) (fun Z2 => ?_); (focus ((repeat (first | (with_reducible exact Z1) | (with_reducible refine Row5.alloc ?_ _) | (with_reducible refine Row5.drew ?_))); done))) | (refine absorb (P := Row5 wf2 (w7.heap.size + 1) (.bool false) (.int .u64 0) (.int .u64 0) (.int .u64 0) (.int .u64 0)) (Row5.keep hb2 ?_) (fun Z2 => ?_); (focus ((repeat (first | (with_reducible exact Z1) | (with_reducible refine Row5.alloc ?_ _) | (with_reducible refine Row5.drew ?_))); done))) | (refine absorb (P := Row5 wf2 wf1.heap.size (.bool false) (.int .u64 0) (.int .u64 0) (.int .u64 0) (.int .u64 0)) (Row5.keep hb2 ?_) (fun Z2 => ?_); (focus ((repeat (first | ((with_reducible refine Row5.new' _ ?_ _ _ _ _ _); (simp; done)) | (with_reducible refine Row5.alloc ?_ _) | (with_reducible refine Row5.drew ?_))); done))) | skip); (first | (obtain ⟨zc0, zc1, zc2, zc3, zc4⟩ := Z2.parts; obtain ⟨zf0, zf1, zf2, zf3, zf4⟩ := Z2.free) | skip)))
    all_goals
      have BB1 : Below w7.heap.size w7 wf1 := btr (by repeat (first | (with_reducible exact Below.refl _ _) | (with_reducible refine bal ?_ _) | (with_reducible refine Below.drew ?_) | (with_reducible refine bdn ?_ _))) hb1
      have BB2 : Below w7.heap.size w7 wf2 := btr (by repeat (first | (with_reducible exact BB1) | (with_reducible refine bal ?_ _) | (with_reducible refine Below.drew ?_) | (with_reducible refine bdn ?_ _))) hb2
      have hs := BB2.size
      have hs1 := BB1.size
      go_wp2_with fail
      go_meet
      first
        | with_reducible exact ⟨_, rfl, rfl, Row5.new _ _ _ _ _ _, hs, bal BB2 _⟩
        | with_reducible exact ⟨_, rfl, rfl, Row5.set5 Z2 _ _ _ _ _, by omega, bsc5 BB2 (by omega) _ _ _ _ _⟩
        | with_reducible exact ⟨_, rfl, rfl, Row5.set5 Z2 _ _ _ _ _, by omega, bsc5 BB2 (by omega) _ _ _ _ _⟩
  case rest =>
    obtain ⟨pO, rfl, rfl, Oq, hpO, hBO⟩ := hcut
    have hb := hBO
    generalize wc = w8 at *
    have BW8 : Below w.heap.size w w8 := btr BW7 hb
    have X8 : Row5 w8 w.heap.size (.bool false) (.int .u64 (lb 0 x)) (.int .u64 (lb 1 x)) (.int .u64 (lb 2 x)) (.int .u64 (lb 3 x)) := Row5.keep hb X7
    have R8 : Row5 w8 (w.heap.size + 1) (.bool false) (.int .u64 0) (.int .u64 0) (.int .u64 0) (.int .u64 0) := Row5.keep hb R7
    have O8 : Row5 w8 pO (.bool h) (.int .u64 y0) (.int .u64 y1) (.int .u64 y2) (.int .u64 y3) := Oq
    clear X7 R7 BW7 hb hBO Oq
    obtain ⟨Oc0, Oc1, Oc2, Oc3, Oc4⟩ := O8.parts
    obtain ⟨Of0, Of1, Of2, Of3, Of4⟩ := O8.free
    go_wp2_with fail
    refine (KO.out _).mono ?_
    rintro e w9 ⟨rfl, hb⟩
    have BW9 : Below w.heap.size w w9 := btr (by repeat (first | (with_reducible exact BW8) | (with_reducible refine bal ?_ _) | (with_reducible refine Below.drew ?_) | (with_reducible refine bdn ?_ _))) hb
    have X9 : Row5 w9 w.heap.size (.bool false) (.int .u64 (lb 0 x)) (.int .u64 (lb 1 x)) (.int .u64 (lb 2 x)) (.int .u64 (lb 3 x)) := Row5.keep hb (by repeat (first | (with_reducible exact X8) | (with_reducible refine Row5.alloc ?_ _) | (with_reducible refine Row5.drew ?_)))
    have R9 : Row5 w9 (w.heap.size + 1) (.bool false) (.int .u64 0) (.int .u64 0) (.int .u64 0) (.int .u64 0) := Row5.keep hb (by repeat (first | (with_reducible exact R8) | (with_reducible refine Row5.alloc ?_ _) | (with_reducible refine Row5.drew ?_)))
    have O9 : Row5 w9 pO (.bool h) (.int .u64 y0) (.int .u64 y1) (.int .u64 y2) (.int .u64 y3) := Row5.keep hb (by repeat (first | (with_reducible exact O8) | (with_reducible refine Row5.alloc ?_ _) | (with_reducible refine Row5.drew ?_)))
    clear X8 R8 O8
    clear BW8
    clear hb
    obtain ⟨Rc0, Rc1, Rc2, Rc3, Rc4⟩ := R9.parts
    obtain ⟨Rf0, Rf1, Rf2, Rf3, Rf4⟩ := R9.free
    have lt_R := R9.lt
    go_wp2
    exact bodyPost_ret (v := .tuple #[.agg #[.bool h, .int .u64 y0, .int .u64 y1, .int .u64 y2, .int .u64 y3], .bool b]) (by simp [results, Tryd.results49, go_sem, Rc0, Rc1, Rc2, Rc3, Rc4]) rfl ⟨rfl, by repeat (first | (with_reducible exact BW9) | (with_reducible refine bal ?_ _) | (with_reducible refine Below.drew ?_) | (with_reducible refine bdn ?_ _) | ((with_reducible refine bsc ?_ ?_ _); rotate_left; (focus (simp only []; omega))))⟩
set_option maxHeartbeats 4000000 in
set_option maxRecDepth 100000 in
theorem rnear_turn_false (x : Nat) (hx : x < 2 ^ 256) (h : Bool) (y0 y1 y2 y3 : Int) (b : Bool) (c : Int) (hc : rcv x 9007199254740993 = c) (hc0 : c < 0) (w : World)
    (k1 : ∀ W, Calls Tryd.prog 29 #[I5 false x] W fun e w' => e = .returned (.bool true) ∧ Below W.heap.size W w')
    (k2 : ∀ W, Calls Tryd.prog 54 #[I5 false x] W fun e w' => e = .returned (.bool true) ∧ Below W.heap.size W w')
    (kw : ∀ s' W, DR W s' 9007199254740993 → Calls Tryd.prog 85 #[.bool true, s'] W fun e w' => e = .returned (.tuple #[.agg #[.bool h, .int .u64 y0, .int .u64 y1, .int .u64 y2, .int .u64 y3], .bool b]) ∧ Below W.heap.size W w') :
    Calls Tryd.prog 49 #[I5 false x, .bool false, .bool false] w fun e w' => e = .returned (.tuple #[.agg #[.bool h, .int .u64 y0, .int .u64 y1, .int .u64 y2, .int .u64 y3], .bool b]) ∧ Below w.heap.size w w' := by
  unfold I5 at *
  have HX := Lib.hid hx; have K1 := Lib.hid k1; have K2 := Lib.hid k2; have KW := Lib.hid kw; clear hx k1 k2 kw
  have HC := Lib.hid hc; clear hc
  have L1 := Lib.hid (digs_eight HX.out); have L2 := Lib.hid (digs_eight (show 1 < 2 ^ 256 by decide)); have L3 := Lib.hid (digs_eight (show 2 ^ 53 < 2 ^ 256 by decide))
  go_enter Tryd.func49, Tryd.ntmps49
  go_wp2_with fail
  refine (K1.out _).mono ?_
  rintro e w1 ⟨rfl, hb⟩
  have BW1 : Below w.heap.size w w1 := btr (by repeat (first | (with_reducible exact Below.refl _ _) | (with_reducible refine bal ?_ _) | (with_reducible refine Below.drew ?_) | (with_reducible refine bdn ?_ _))) hb
  have X1 : Row5 w1 w.heap.size (.bool false) (.int .u64 (lb 0 x)) (.int .u64 (lb 1 x)) (.int .u64 (lb 2 x)) (.int .u64 (lb 3 x)) := Row5.keep hb (by repeat (first | (with_reducible exact Row5.new _ _ _ _ _ _) | ((with_reducible refine Row5.new' _ ?_ _ _ _ _ _); (simp; done)) | (with_reducible refine Row5.alloc ?_ _) | (with_reducible refine Row5.drew ?_)))
  have R1 : Row5 w1 (w.heap.size + 1) (.bool false) (.int .u64 0) (.int .u64 0) (.int .u64 0) (.int .u64 0) := Row5.keep hb (by repeat (first | (with_reducible exact Row5.new _ _ _ _ _ _) | ((with_reducible refine Row5.new' _ ?_ _ _ _ _ _); (simp; done)) | (with_reducible refine Row5.alloc ?_ _) | (with_reducible refine Row5.drew ?_)))
  clear hb
  obtain ⟨Xc0, Xc1, Xc2, Xc3, Xc4⟩ := X1.parts
  obtain ⟨Xf0, Xf1, Xf2, Xf3, Xf4⟩ := X1.free
  go_wp2_with fail
  refine (K2.out _).mono ?_
  rintro e w2 ⟨rfl, hb⟩
  have BW2 : Below w.heap.size w w2 := btr (by repeat (first | (with_reducible exact BW1) | (with_reducible refine bal ?_ _) | (with_reducible refine Below.drew ?_) | (with_reducible refine bdn ?_ _))) hb
  have X2 : Row5 w2 w.heap.size (.bool false) (.int .u64 (lb 0 x)) (.int .u64 (lb 1 x)) (.int .u64 (lb 2 x)) (.int .u64 (lb 3 x)) := Row5.keep hb (by repeat (first | (with_reducible exact X1) | (with_reducible refine Row5.alloc ?_ _) | (with_reducible refine Row5.drew ?_)))
  have R2 : Row5 w2 (w.heap.size + 1) (.bool false) (.int .u64 0) (.int .u64 0) (.int .u64 0) (.int .u64 0) := Row5.keep hb (by repeat (first | (with_reducible exact R1) | (with_reducible refine Row5.alloc ?_ _) | (with_reducible refine Row5.drew ?_)))
  clear X1 R1
  clear BW1
  clear hb
  obtain ⟨Xc0, Xc1, Xc2, Xc3, Xc4⟩ := X2.parts
  obtain ⟨Xf0, Xf1, Xf2, Xf3, Xf4⟩ := X2.free
  go_wp2_with fail
  refine (rof x HX.out _).mono ?_
  rintro e w3 ⟨s1, rfl, hr, hb⟩
  have hbX : Below w2.heap.size w2 w3 := btr (by repeat (first | (with_reducible exact Below.refl _ _) | (with_reducible refine bal ?_ _) | (with_reducible refine Below.drew ?_) | (with_reducible refine bdn ?_ _))) hb
  clear hbX
  have DX3 : DR w3 s1 x := hr
  clear hr
  have BW3 : Below w.heap.size w w3 := btr (by repeat (first | (with_reducible exact BW2) | (with_reducible refine bal ?_ _) | (with_reducible refine Below.drew ?_) | (with_reducible refine bdn ?_ _))) hb
  have X3 : Row5 w3 w.heap.size (.bool false) (.int .u64 (lb 0 x)) (.int .u64 (lb 1 x)) (.int .u64 (lb 2 x)) (.int .u64 (lb 3 x)) := Row5.keep hb (by repeat (first | (with_reducible exact X2) | (with_reducible refine Row5.alloc ?_ _) | (with_reducible refine Row5.drew ?_)))
  have R3 : Row5 w3 (w.heap.size + 1) (.bool false) (.int .u64 0) (.int .u64 0) (.int .u64 0) (.int .u64 0) := Row5.keep hb (by repeat (first | (with_reducible exact R2) | (with_reducible refine Row5.alloc ?_ _) | (with_reducible refine Row5.drew ?_)))
  clear X2 R2
  clear BW2
  clear hb
  obtain ⟨Xc0, Xc1, Xc2, Xc3, Xc4⟩ := X3.parts
  obtain ⟨Xf0, Xf1, Xf2, Xf3, Xf4⟩ := X3.free
  go_wp2_with fail
  refine ((rpow_53 _)).mono ?_
  rintro e w4 ⟨s2, rfl, hr, hb⟩
  have hbX : Below w3.heap.size w3 w4 := btr (by repeat (first | (with_reducible exact Below.refl _ _) | (with_reducible refine bal ?_ _) | (with_reducible refine Below.drew ?_) | (with_reducible refine bdn ?_ _))) hb
  have DX4 : DR w4 s1 x := DR.keep hbX DX3
  clear DX3
  clear hbX
  have DP4 : DR w4 s2 (2 ^ 53) := hr
  clear hr
  have BW4 : Below w.heap.size w w4 := btr (by repeat (first | (with_reducible exact BW3) | (with_reducible refine bal ?_ _) | (with_reducible refine Below.drew ?_) | (with_reducible refine bdn ?_ _))) hb
  have X4 : Row5 w4 w.heap.size (.bool false) (.int .u64 (lb 0 x)) (.int .u64 (lb 1 x)) (.int .u64 (lb 2 x)) (.int .u64 (lb 3 x)) := Row5.keep hb (by repeat (first | (with_reducible exact X3) | (with_reducible refine Row5.alloc ?_ _) | (with_reducible refine Row5.drew ?_)))
  have R4 : Row5 w4 (w.heap.size + 1) (.bool false) (.int .u64 0) (.int .u64 0) (.int .u64 0) (.int .u64 0) := Row5.keep hb (by repeat (first | (with_reducible exact R3) | (with_reducible refine Row5.alloc ?_ _) | (with_reducible refine Row5.drew ?_)))
  clear X3 R3
  clear BW3
  clear hb
  go_wp2_with fail
  refine (radd_least (DR.keep (by repeat (first | (with_reducible exact Below.refl _ _) | (with_reducible refine bal ?_ _) | (with_reducible refine Below.drew ?_) | (with_reducible refine bdn ?_ _))) DP4) (DR.keep (by repeat (first | (with_reducible exact Below.refl _ _) | (with_reducible refine bal ?_ _) | (with_reducible refine Below.drew ?_) | (with_reducible refine bdn ?_ _))) (ten_new w4 1 (by decide) (by decide) 1 rfl)) L3.out L2.out).mono ?_
  rintro e w5 ⟨s3, rfl, hr, hb⟩
  have hbX : Below w4.heap.size w4 w5 := btr (by repeat (first | (with_reducible exact Below.refl _ _) | (with_reducible refine bal ?_ _) | (with_reducible refine Below.drew ?_) | (with_reducible refine bdn ?_ _))) hb
  have DX5 : DR w5 s1 x := DR.keep hbX DX4
  have DP5 : DR w5 s2 (2 ^ 53) := DR.keep hbX DP4
  clear DX4 DP4
  clear hbX
  have DL5 : DR w5 s3 9007199254740993 := hr
  clear hr
  have BW5 : Below w.heap.size w w5 := btr (by repeat (first | (with_reducible exact BW4) | (with_reducible refine bal ?_ _) | (with_reducible refine Below.drew ?_) | (with_reducible refine bdn ?_ _))) hb
  have X5 : Row5 w5 w.heap.size (.bool false) (.int .u64 (lb 0 x)) (.int .u64 (lb 1 x)) (.int .u64 (lb 2 x)) (.int .u64 (lb 3 x)) := Row5.keep hb (by repeat (first | (with_reducible exact X4) | (with_reducible refine Row5.alloc ?_ _) | (with_reducible refine Row5.drew ?_)))
  have R5 : Row5 w5 (w.heap.size + 1) (.bool false) (.int .u64 0) (.int .u64 0) (.int .u64 0) (.int .u64 0) := Row5.keep hb (by repeat (first | (with_reducible exact R4) | (with_reducible refine Row5.alloc ?_ _) | (with_reducible refine Row5.drew ?_)))
  clear X4 R4
  clear BW4
  clear hb
  go_wp2_with fail
  refine (rcmp_is HC.out L1.out (DR.keep (by repeat (first | (with_reducible exact Below.refl _ _) | (with_reducible refine bal ?_ _) | (with_reducible refine Below.drew ?_) | (with_reducible refine bdn ?_ _))) DX5) (DR.keep (by repeat (first | (with_reducible exact Below.refl _ _) | (with_reducible refine bal ?_ _) | (with_reducible refine Below.drew ?_) | (with_reducible refine bdn ?_ _))) DL5)).mono ?_
  rintro e w6 ⟨rfl, hb⟩
  have hbX : Below w5.heap.size w5 w6 := btr (by repeat (first | (with_reducible exact Below.refl _ _) | (with_reducible refine bal ?_ _) | (with_reducible refine Below.drew ?_) | (with_reducible refine bdn ?_ _))) hb
  have DX6 : DR w6 s1 x := DR.keep hbX DX5
  have DP6 : DR w6 s2 (2 ^ 53) := DR.keep hbX DP5
  have DL6 : DR w6 s3 9007199254740993 := DR.keep hbX DL5
  clear DX5 DP5 DL5
  clear hbX
  have BW6 : Below w.heap.size w w6 := btr (by repeat (first | (with_reducible exact BW5) | (with_reducible refine bal ?_ _) | (with_reducible refine Below.drew ?_) | (with_reducible refine bdn ?_ _))) hb
  have X6 : Row5 w6 w.heap.size (.bool false) (.int .u64 (lb 0 x)) (.int .u64 (lb 1 x)) (.int .u64 (lb 2 x)) (.int .u64 (lb 3 x)) := Row5.keep hb (by repeat (first | (with_reducible exact X5) | (with_reducible refine Row5.alloc ?_ _) | (with_reducible refine Row5.drew ?_)))
  have R6 : Row5 w6 (w.heap.size + 1) (.bool false) (.int .u64 0) (.int .u64 0) (.int .u64 0) (.int .u64 0) := Row5.keep hb (by repeat (first | (with_reducible exact R5) | (with_reducible refine Row5.alloc ?_ _) | (with_reducible refine Row5.drew ?_)))
  clear X5 R5
  clear BW5
  clear hb
  obtain ⟨Xc0, Xc1, Xc2, Xc3, Xc4⟩ := X6.parts
  obtain ⟨Xf0, Xf1, Xf2, Xf3, Xf4⟩ := X6.free
  go_wp2_with fail
  refine (KW.out _ _ (DR.keep (by repeat (first | (with_reducible exact Below.refl _ _) | (with_reducible refine bal ?_ _) | (with_reducible refine Below.drew ?_) | (with_reducible refine bdn ?_ _))) DL6)).mono ?_
  rintro e w7 ⟨rfl, hb⟩
  have hbX : Below w6.heap.size w6 w7 := btr (by repeat (first | (with_reducible exact Below.refl _ _) | (with_reducible refine bal ?_ _) | (with_reducible refine Below.drew ?_) | (with_reducible refine bdn ?_ _))) hb
  have DX7 : DR w7 s1 x := DR.keep hbX DX6
  have DP7 : DR w7 s2 (2 ^ 53) := DR.keep hbX DP6
  have DL7 : DR w7 s3 9007199254740993 := DR.keep hbX DL6
  clear DX6 DP6 DL6
  clear hbX
  have BW7 : Below w.heap.size w w7 := btr (by repeat (first | (with_reducible exact BW6) | (with_reducible refine bal ?_ _) | (with_reducible refine Below.drew ?_) | (with_reducible refine bdn ?_ _))) hb
  have X7 : Row5 w7 w.heap.size (.bool false) (.int .u64 (lb 0 x)) (.int .u64 (lb 1 x)) (.int .u64 (lb 2 x)) (.int .u64 (lb 3 x)) := Row5.keep hb (by repeat (first | (with_reducible exact X6) | (with_reducible refine Row5.alloc ?_ _) | (with_reducible refine Row5.drew ?_)))
  have R7 : Row5 w7 (w.heap.size + 1) (.bool false) (.int .u64 0) (.int .u64 0) (.int .u64 0) (.int .u64 0) := Row5.keep hb (by repeat (first | (with_reducible exact R6) | (with_reducible refine Row5.alloc ?_ _) | (with_reducible refine Row5.drew ?_)))
  clear X6 R6
  clear BW6
  clear hb
  obtain ⟨Rc0, Rc1, Rc2, Rc3, Rc4⟩ := R7.parts
  obtain ⟨Rf0, Rf1, Rf2, Rf3, Rf4⟩ := R7.free
  have lt_R := R7.lt
  go_wp2
  exact bodyPost_ret (v := .tuple #[.agg #[.bool h, .int .u64 y0, .int .u64 y1, .int .u64 y2, .int .u64 y3], .bool b]) (by simp [results, Tryd.results49, go_sem, Rc0, Rc1, Rc2, Rc3, Rc4]) rfl ⟨rfl, by repeat (first | (with_reducible exact BW7) | (with_reducible refine bal ?_ _) | (with_reducible refine Below.drew ?_) | (with_reducible refine bdn ?_ _) | ((with_reducible refine bsc ?_ ?_ _); rotate_left; (focus (simp only []; omega))))⟩
set_option maxHeartbeats 4000000 in
set_option maxRecDepth 100000 in
theorem rnear_less_false (x : Nat) (hx : x < 2 ^ 256) (h : Bool) (y0 y1 y2 y3 : Int) (b : Bool) (c : Int) (hc : rcv x 9007199254740993 = c) (hc0 : 0 ≤ c) (hle : 1 ≤ x) (w : World)
    (k1 : ∀ W, Calls Tryd.prog 29 #[I5 false x] W fun e w' => e = .returned (.bool true) ∧ Below W.heap.size W w')
    (k2 : ∀ W, Calls Tryd.prog 54 #[I5 false x] W fun e w' => e = .returned (.bool true) ∧ Below W.heap.size W w')
    (kw : ∀ s' W, DR W s' (x - 1) → Calls Tryd.prog 85 #[.bool false, s'] W fun e w' => e = .returned (.tuple #[.agg #[.bool h, .int .u64 y0, .int .u64 y1, .int .u64 y2, .int .u64 y3], .bool b]) ∧ Below W.heap.size W w')
    (ko : ∀ W, Calls Tryd.prog 92 #[.agg #[.bool h, .int .u64 y0, .int .u64 y1, .int .u64 y2, .int .u64 y3], .bool b, .bool false] W fun e w' => e = .returned (.tuple #[.agg #[.bool h, .int .u64 y0, .int .u64 y1, .int .u64 y2, .int .u64 y3], .bool b]) ∧ Below W.heap.size W w') :
    Calls Tryd.prog 49 #[I5 false x, .bool false, .bool false] w fun e w' => e = .returned (.tuple #[.agg #[.bool h, .int .u64 y0, .int .u64 y1, .int .u64 y2, .int .u64 y3], .bool b]) ∧ Below w.heap.size w w' := by
  unfold I5 at *
  have HX := Lib.hid hx; have K1 := Lib.hid k1; have K2 := Lib.hid k2; have KW := Lib.hid kw; have KO := Lib.hid ko; clear hx k1 k2 kw ko
  have HC := Lib.hid hc; clear hc
  have L1 := Lib.hid (digs_eight HX.out); have L2 := Lib.hid (digs_eight (show 1 < 2 ^ 256 by decide)); have L3 := Lib.hid (digs_eight (show 2 ^ 53 < 2 ^ 256 by decide))
  go_enter Tryd.func49, Tryd.ntmps49
  go_wp2_with fail
  refine (K1.out _).mono ?_
  rintro e w1 ⟨rfl, hb⟩
  have BW1 : Below w.heap.size w w1 := btr (by repeat (first | (with_reducible exact Below.refl _ _) | (with_reducible refine bal ?_ _) | (with_reducible refine Below.drew ?_) | (with_reducible refine bdn ?_ _))) hb
  have X1 : Row5 w1 w.heap.size (.bool false) (.int .u64 (lb 0 x)) (.int .u64 (lb 1 x)) (.int .u64 (lb 2 x)) (.int .u64 (lb 3 x)) := Row5.keep hb (by repeat (first | (with_reducible exact Row5.new _ _ _ _ _ _) | ((with_reducible refine Row5.new' _ ?_ _ _ _ _ _); (simp; done)) | (with_reducible refine Row5.alloc ?_ _) | (with_reducible refine Row5.drew ?_)))
  have R1 : Row5 w1 (w.heap.size + 1) (.bool false) (.int .u64 0) (.int .u64 0) (.int .u64 0) (.int .u64 0) := Row5.keep hb (by repeat (first | (with_reducible exact Row5.new _ _ _ _ _ _) | ((with_reducible refine Row5.new' _ ?_ _ _ _ _ _); (simp; done)) | (with_reducible refine Row5.alloc ?_ _) | (with_reducible refine Row5.drew ?_)))
  clear hb
  obtain ⟨Xc0, Xc1, Xc2, Xc3, Xc4⟩ := X1.parts
  obtain ⟨Xf0, Xf1, Xf2, Xf3, Xf4⟩ := X1.free
  go_wp2_with fail
  refine (K2.out _).mono ?_
  rintro e w2 ⟨rfl, hb⟩
  have BW2 : Below w.heap.size w w2 := btr (by repeat (first | (with_reducible exact BW1) | (with_reducible refine bal ?_ _) | (with_reducible refine Below.drew ?_) | (with_reducible refine bdn ?_ _))) hb
  have X2 : Row5 w2 w.heap.size (.bool false) (.int .u64 (lb 0 x)) (.int .u64 (lb 1 x)) (.int .u64 (lb 2 x)) (.int .u64 (lb 3 x)) := Row5.keep hb (by repeat (first | (with_reducible exact X1) | (with_reducible refine Row5.alloc ?_ _) | (with_reducible refine Row5.drew ?_)))
  have R2 : Row5 w2 (w.heap.size + 1) (.bool false) (.int .u64 0) (.int .u64 0) (.int .u64 0) (.int .u64 0) := Row5.keep hb (by repeat (first | (with_reducible exact R1) | (with_reducible refine Row5.alloc ?_ _) | (with_reducible refine Row5.drew ?_)))
  clear X1 R1
  clear BW1
  clear hb
  obtain ⟨Xc0, Xc1, Xc2, Xc3, Xc4⟩ := X2.parts
  obtain ⟨Xf0, Xf1, Xf2, Xf3, Xf4⟩ := X2.free
  go_wp2_with fail
  refine (rof x HX.out _).mono ?_
  rintro e w3 ⟨s1, rfl, hr, hb⟩
  have hbX : Below w2.heap.size w2 w3 := btr (by repeat (first | (with_reducible exact Below.refl _ _) | (with_reducible refine bal ?_ _) | (with_reducible refine Below.drew ?_) | (with_reducible refine bdn ?_ _))) hb
  clear hbX
  have DX3 : DR w3 s1 x := hr
  clear hr
  have BW3 : Below w.heap.size w w3 := btr (by repeat (first | (with_reducible exact BW2) | (with_reducible refine bal ?_ _) | (with_reducible refine Below.drew ?_) | (with_reducible refine bdn ?_ _))) hb
  have X3 : Row5 w3 w.heap.size (.bool false) (.int .u64 (lb 0 x)) (.int .u64 (lb 1 x)) (.int .u64 (lb 2 x)) (.int .u64 (lb 3 x)) := Row5.keep hb (by repeat (first | (with_reducible exact X2) | (with_reducible refine Row5.alloc ?_ _) | (with_reducible refine Row5.drew ?_)))
  have R3 : Row5 w3 (w.heap.size + 1) (.bool false) (.int .u64 0) (.int .u64 0) (.int .u64 0) (.int .u64 0) := Row5.keep hb (by repeat (first | (with_reducible exact R2) | (with_reducible refine Row5.alloc ?_ _) | (with_reducible refine Row5.drew ?_)))
  clear X2 R2
  clear BW2
  clear hb
  obtain ⟨Xc0, Xc1, Xc2, Xc3, Xc4⟩ := X3.parts
  obtain ⟨Xf0, Xf1, Xf2, Xf3, Xf4⟩ := X3.free
  go_wp2_with fail
  refine ((rpow_53 _)).mono ?_
  rintro e w4 ⟨s2, rfl, hr, hb⟩
  have hbX : Below w3.heap.size w3 w4 := btr (by repeat (first | (with_reducible exact Below.refl _ _) | (with_reducible refine bal ?_ _) | (with_reducible refine Below.drew ?_) | (with_reducible refine bdn ?_ _))) hb
  have DX4 : DR w4 s1 x := DR.keep hbX DX3
  clear DX3
  clear hbX
  have DP4 : DR w4 s2 (2 ^ 53) := hr
  clear hr
  have BW4 : Below w.heap.size w w4 := btr (by repeat (first | (with_reducible exact BW3) | (with_reducible refine bal ?_ _) | (with_reducible refine Below.drew ?_) | (with_reducible refine bdn ?_ _))) hb
  have X4 : Row5 w4 w.heap.size (.bool false) (.int .u64 (lb 0 x)) (.int .u64 (lb 1 x)) (.int .u64 (lb 2 x)) (.int .u64 (lb 3 x)) := Row5.keep hb (by repeat (first | (with_reducible exact X3) | (with_reducible refine Row5.alloc ?_ _) | (with_reducible refine Row5.drew ?_)))
  have R4 : Row5 w4 (w.heap.size + 1) (.bool false) (.int .u64 0) (.int .u64 0) (.int .u64 0) (.int .u64 0) := Row5.keep hb (by repeat (first | (with_reducible exact R3) | (with_reducible refine Row5.alloc ?_ _) | (with_reducible refine Row5.drew ?_)))
  clear X3 R3
  clear BW3
  clear hb
  go_wp2_with fail
  refine (radd_least (DR.keep (by repeat (first | (with_reducible exact Below.refl _ _) | (with_reducible refine bal ?_ _) | (with_reducible refine Below.drew ?_) | (with_reducible refine bdn ?_ _))) DP4) (DR.keep (by repeat (first | (with_reducible exact Below.refl _ _) | (with_reducible refine bal ?_ _) | (with_reducible refine Below.drew ?_) | (with_reducible refine bdn ?_ _))) (ten_new w4 1 (by decide) (by decide) 1 rfl)) L3.out L2.out).mono ?_
  rintro e w5 ⟨s3, rfl, hr, hb⟩
  have hbX : Below w4.heap.size w4 w5 := btr (by repeat (first | (with_reducible exact Below.refl _ _) | (with_reducible refine bal ?_ _) | (with_reducible refine Below.drew ?_) | (with_reducible refine bdn ?_ _))) hb
  have DX5 : DR w5 s1 x := DR.keep hbX DX4
  have DP5 : DR w5 s2 (2 ^ 53) := DR.keep hbX DP4
  clear DX4 DP4
  clear hbX
  have DL5 : DR w5 s3 9007199254740993 := hr
  clear hr
  have BW5 : Below w.heap.size w w5 := btr (by repeat (first | (with_reducible exact BW4) | (with_reducible refine bal ?_ _) | (with_reducible refine Below.drew ?_) | (with_reducible refine bdn ?_ _))) hb
  have X5 : Row5 w5 w.heap.size (.bool false) (.int .u64 (lb 0 x)) (.int .u64 (lb 1 x)) (.int .u64 (lb 2 x)) (.int .u64 (lb 3 x)) := Row5.keep hb (by repeat (first | (with_reducible exact X4) | (with_reducible refine Row5.alloc ?_ _) | (with_reducible refine Row5.drew ?_)))
  have R5 : Row5 w5 (w.heap.size + 1) (.bool false) (.int .u64 0) (.int .u64 0) (.int .u64 0) (.int .u64 0) := Row5.keep hb (by repeat (first | (with_reducible exact R4) | (with_reducible refine Row5.alloc ?_ _) | (with_reducible refine Row5.drew ?_)))
  clear X4 R4
  clear BW4
  clear hb
  go_wp2_with fail
  refine (rcmp_is HC.out L1.out (DR.keep (by repeat (first | (with_reducible exact Below.refl _ _) | (with_reducible refine bal ?_ _) | (with_reducible refine Below.drew ?_) | (with_reducible refine bdn ?_ _))) DX5) (DR.keep (by repeat (first | (with_reducible exact Below.refl _ _) | (with_reducible refine bal ?_ _) | (with_reducible refine Below.drew ?_) | (with_reducible refine bdn ?_ _))) DL5)).mono ?_
  rintro e w6 ⟨rfl, hb⟩
  have hbX : Below w5.heap.size w5 w6 := btr (by repeat (first | (with_reducible exact Below.refl _ _) | (with_reducible refine bal ?_ _) | (with_reducible refine Below.drew ?_) | (with_reducible refine bdn ?_ _))) hb
  have DX6 : DR w6 s1 x := DR.keep hbX DX5
  have DP6 : DR w6 s2 (2 ^ 53) := DR.keep hbX DP5
  have DL6 : DR w6 s3 9007199254740993 := DR.keep hbX DL5
  clear DX5 DP5 DL5
  clear hbX
  have BW6 : Below w.heap.size w w6 := btr (by repeat (first | (with_reducible exact BW5) | (with_reducible refine bal ?_ _) | (with_reducible refine Below.drew ?_) | (with_reducible refine bdn ?_ _))) hb
  have X6 : Row5 w6 w.heap.size (.bool false) (.int .u64 (lb 0 x)) (.int .u64 (lb 1 x)) (.int .u64 (lb 2 x)) (.int .u64 (lb 3 x)) := Row5.keep hb (by repeat (first | (with_reducible exact X5) | (with_reducible refine Row5.alloc ?_ _) | (with_reducible refine Row5.drew ?_)))
  have R6 : Row5 w6 (w.heap.size + 1) (.bool false) (.int .u64 0) (.int .u64 0) (.int .u64 0) (.int .u64 0) := Row5.keep hb (by repeat (first | (with_reducible exact R5) | (with_reducible refine Row5.alloc ?_ _) | (with_reducible refine Row5.drew ?_)))
  clear X5 R5
  clear BW5
  clear hb
  obtain ⟨Xc0, Xc1, Xc2, Xc3, Xc4⟩ := X6.parts
  obtain ⟨Xf0, Xf1, Xf2, Xf3, Xf4⟩ := X6.free
  go_upto_region 21 with (fail)
  go_name_world w7 hw7
  have BW7 : Below w.heap.size w w7 := by rw [← hw7]; repeat (first | (with_reducible exact BW6) | (with_reducible refine bal ?_ _) | (with_reducible refine Below.drew ?_) | (with_reducible refine bdn ?_ _))
  have hbX : Below w6.heap.size w6 w7 := by rw [← hw7]; repeat (first | (with_reducible exact Below.refl _ _) | (with_reducible refine bal ?_ _) | (with_reducible refine Below.drew ?_) | (with_reducible refine bdn ?_ _))
  have DX7 : DR w7 s1 x := DR.keep hbX DX6
  have DP7 : DR w7 s2 (2 ^ 53) := DR.keep hbX DP6
  have DL7 : DR w7 s3 9007199254740993 := DR.keep hbX DL6
  clear hbX DX6 DP6 DL6
  have X7 : Row5 w7 w.heap.size (.bool false) (.int .u64 (lb 0 x)) (.int .u64 (lb 1 x)) (.int .u64 (lb 2 x)) (.int .u64 (lb 3 x)) := by rw [← hw7]; exact (by repeat (first | (with_reducible exact X6) | (with_reducible refine Row5.alloc ?_ _) | (with_reducible refine Row5.drew ?_)))
  have R7 : Row5 w7 (w.heap.size + 1) (.bool false) (.int .u64 0) (.int .u64 0) (.int .u64 0) (.int .u64 0) := by rw [← hw7]; exact (by repeat (first | (with_reducible exact R6) | (with_reducible refine Row5.alloc ?_ _) | (with_reducible refine Row5.drew ?_)))
  clear X6 R6
  clear BW6
  clear hw7
  have lt_X := X7.lt
  have lt_R := R7.lt
  go_cut [15, 16] (fun s15 s16 wx => ∃ p : Nat, s15 = .pointer (some ⟨p, 0, none⟩) ∧ s16 = .bool b ∧ Row5 wx p (.bool h) (.int .u64 y0) (.int .u64 y1) (.int .u64 y2) (.int .u64 y3) ∧ w7.heap.size ≤ p ∧ Below w7.heap.size w7 wx)
  case first =>
    go_region_held3 (fun w' => w'.cell? ⟨w.heap.size, 0, none⟩ = some (.bool false) ∧ w'.cell? ⟨w.heap.size, 1, none⟩ = some (.int .u64 (lb 0 x)) ∧ w'.cell? ⟨w.heap.size, 2, none⟩ = some (.int .u64 (lb 1 x)) ∧ w'.cell? ⟨w.heap.size, 3, none⟩ = some (.int .u64 (lb 2 x)) ∧ w'.cell? ⟨w.heap.size, 4, none⟩ = some (.int .u64 (lb 3 x)))
      ((refine Row5.parts ?_; (repeat (first | (with_reducible assumption) | (with_reducible refine Row5.alloc ?_ _) | (with_reducible refine Row5.drew ?_) | ((with_reducible refine Row5.set ?_ ?_ _); rotate_left; (focus (omega))))); done))
      (first | (go_at_call 87; (with_reducible refine (rsub (DR.keep (by repeat (first | (with_reducible exact Below.refl _ _) | (with_reducible refine bal ?_ _) | (with_reducible refine Below.drew ?_) | (with_reducible refine bdn ?_ _))) DX7) (DR.keep (by repeat (first | (with_reducible exact Below.refl _ _) | (with_reducible refine bal ?_ _) | (with_reducible refine Below.drew ?_) | (with_reducible refine bdn ?_ _))) (ten_at _ _ 1 1 (by first | rfl | (simp; done)) (by decide) (by decide) rfl)) L1.out hle).mono ?_); rintro e wf1 ⟨sa, rfl, hra, hb1⟩; have Xf1 : Row5 wf1 w.heap.size (.bool false) (.int .u64 (lb 0 x)) (.int .u64 (lb 1 x)) (.int .u64 (lb 2 x)) (.int .u64 (lb 3 x)) := Row5.keep hb1 (by repeat (first | (with_reducible assumption) | (with_reducible refine Row5.alloc ?_ _) | (with_reducible refine Row5.drew ?_))); have ltXf1 := Xf1.lt; (first | (refine absorb (P := Row5 wf1 w7.heap.size (.bool false) (.int .u64 0) (.int .u64 0) (.int .u64 0) (.int .u64 0)) (Row5.keep hb1 ?_) (fun Z1 => ?_); (focus ((repeat (first | ((with_reducible refine Row5.new' _ ?_ _ _ _ _ _); (simp; done)) | (with_reducible refine Row5.alloc ?_ _) | (with_reducible refine Row5.drew ?_))); done))) | (refine absorb (P := Row5 wf1 (w7.heap.size + 1) (.bool false) (.int .u64 0) (.int .u64 0) (.int .u64 0) (.int .u64 0)) (Row5.keep hb1 ?_) (fun Z1 => ?_); (focus ((repeat (first | ((with_reducible refine Row5.new' _ ?_ _ _ _ _ _); (simp; done)) | (with_reducible refine Row5.alloc ?_ _) | (with_reducible refine Row5.drew ?_))); done))) | skip); (first | (obtain ⟨zc0, zc1, zc2, zc3, zc4⟩ := Z1.parts; obtain ⟨zf0, zf1, zf2, zf3, zf4⟩ := Z1.free) | skip)) | (go_at_call 85; (with_reducible refine (KW.out _ _ (DR.keep (by repeat (first | (with_reducible exact Below.refl _ _) | (with_reducible refine bal ?_ _) | (with_reducible refine Below.drew ?_) | (with_reducible refine bdn ?_ _))) hra)).mono ?_); rintro e wf2 ⟨rfl, hb2⟩; have Xf2 : Row5 wf2 w.heap.size (.bool false) (.int .u64 (lb 0 x)) (.int .u64 (lb 1 x)) (.int .u64 (lb 2 x)) (.int .u64 (lb 3 x)) := Row5.keep hb2 (by repeat (first | (with_reducible assumption) | (with_reducible refine Row5.alloc ?_ _) | (with_reducible refine Row5.drew ?_))); have ltXf2 := Xf2.lt; (first | (refine absorb (P := Row5 wf2 w7.heap.size (.bool false) (.int .u64 0) (.int .u64 0) (.int .u64 0) (.int .u64 0)) (Row5.keep hb2 ?_) (fun Z2 => ?_); (focus ((repeat (first | (with_reducible exact Z1) | (with_reducible refine Row5.alloc ?_ _) | (with_reducible refine Row5.drew ?_))); done))) | (refine absorb (P := Row5 wf2 (w7.heap.size + 1) (.bool false) (.int .u64 0) (.int .u64 0) (.int .u64 0) (.int .u64 0)) (Row5.keep hb2 ?_) (fun Z2 => ?_); (focus ((repeat (first | (with_reducible exact Z1) | (with_reducible refine Row5.alloc ?_ _) | (with_reducible refine Row5.drew ?_))); done))) | (refine absorb (P := Row5 wf2 wf1.heap.size (.bool false) (.int .u64 0) (.int .u64 0) (.int .u64 0) (.int .u64 0)) (Row5.keep hb2 ?_) (fun Z2 => ?_); (focus ((repeat (first | ((with_reducible refine Row5.new' _ ?_ _ _ _ _ _); (simp; done)) | (with_reducible refine Row5.alloc ?_ _) | (with_reducible refine Row5.drew ?_))); done))) | skip); (first | (obtain ⟨zc0, zc1, zc2, zc3, zc4⟩ := Z2.parts; obtain ⟨zf0, zf1, zf2, zf3, zf4⟩ := Z2.free) | skip)))
    all_goals
      have BB1 : Below w7.heap.size w7 wf1 := btr (by repeat (first | (with_reducible exact Below.refl _ _) | (with_reducible refine bal ?_ _) | (with_reducible refine Below.drew ?_) | (with_reducible refine bdn ?_ _))) hb1
      have BB2 : Below w7.heap.size w7 wf2 := btr (by repeat (first | (with_reducible exact BB1) | (with_reducible refine bal ?_ _) | (with_reducible refine Below.drew ?_) | (with_reducible refine bdn ?_ _))) hb2
      have hs := BB2.size
      have hs1 := BB1.size
      go_wp2_with fail
      go_meet
      first
        | with_reducible exact ⟨_, rfl, rfl, Row5.new _ _ _ _ _ _, hs, bal BB2 _⟩
        | with_reducible exact ⟨_, rfl, rfl, Row5.set5 Z2 _ _ _ _ _, by omega, bsc5 BB2 (by omega) _ _ _ _ _⟩
        | with_reducible exact ⟨_, rfl, rfl, Row5.set5 Z2 _ _ _ _ _, by omega, bsc5 BB2 (by omega) _ _ _ _ _⟩
  case rest =>
    obtain ⟨pO, rfl, rfl, Oq, hpO, hBO⟩ := hcut
    have hb := hBO
    generalize wc = w8 at *
    have BW8 : Below w.heap.size w w8 := btr BW7 hb
    have X8 : Row5 w8 w.heap.size (.bool false) (.int .u64 (lb 0 x)) (.int .u64 (lb 1 x)) (.int .u64 (lb 2 x)) (.int .u64 (lb 3 x)) := Row5.keep hb X7
    have R8 : Row5 w8 (w.heap.size + 1) (.bool false) (.int .u64 0) (.int .u64 0) (.int .u64 0) (.int .u64 0) := Row5.keep hb R7
    have O8 : Row5 w8 pO (.bool h) (.int .u64 y0) (.int .u64 y1) (.int .u64 y2) (.int .u64 y3) := Oq
    clear X7 R7 BW7 hb hBO Oq
    obtain ⟨Oc0, Oc1, Oc2, Oc3, Oc4⟩ := O8.parts
    obtain ⟨Of0, Of1, Of2, Of3, Of4⟩ := O8.free
    go_wp2_with fail
    refine (KO.out _).mono ?_
    rintro e w9 ⟨rfl, hb⟩
    have BW9 : Below w.heap.size w w9 := btr (by repeat (first | (with_reducible exact BW8) | (with_reducible refine bal ?_ _) | (with_reducible refine Below.drew ?_) | (with_reducible refine bdn ?_ _))) hb
    have X9 : Row5 w9 w.heap.size (.bool false) (.int .u64 (lb 0 x)) (.int .u64 (lb 1 x)) (.int .u64 (lb 2 x)) (.int .u64 (lb 3 x)) := Row5.keep hb (by repeat (first | (with_reducible exact X8) | (with_reducible refine Row5.alloc ?_ _) | (with_reducible refine Row5.drew ?_)))
    have R9 : Row5 w9 (w.heap.size + 1) (.bool false) (.int .u64 0) (.int .u64 0) (.int .u64 0) (.int .u64 0) := Row5.keep hb (by repeat (first | (with_reducible exact R8) | (with_reducible refine Row5.alloc ?_ _) | (with_reducible refine Row5.drew ?_)))
    have O9 : Row5 w9 pO (.bool h) (.int .u64 y0) (.int .u64 y1) (.int .u64 y2) (.int .u64 y3) := Row5.keep hb (by repeat (first | (with_reducible exact O8) | (with_reducible refine Row5.alloc ?_ _) | (with_reducible refine Row5.drew ?_)))
    clear X8 R8 O8
    clear BW8
    clear hb
    obtain ⟨Rc0, Rc1, Rc2, Rc3, Rc4⟩ := R9.parts
    obtain ⟨Rf0, Rf1, Rf2, Rf3, Rf4⟩ := R9.free
    have lt_R := R9.lt
    go_wp2
    exact bodyPost_ret (v := .tuple #[.agg #[.bool h, .int .u64 y0, .int .u64 y1, .int .u64 y2, .int .u64 y3], .bool b]) (by simp [results, Tryd.results49, go_sem, Rc0, Rc1, Rc2, Rc3, Rc4]) rfl ⟨rfl, by repeat (first | (with_reducible exact BW9) | (with_reducible refine bal ?_ _) | (with_reducible refine Below.drew ?_) | (with_reducible refine bdn ?_ _) | ((with_reducible refine bsc ?_ ?_ _); rotate_left; (focus (simp only []; omega))))⟩
set_option maxHeartbeats 4000000 in
set_option maxRecDepth 100000 in
theorem rnear_same_true_false (up : Bool) (x : Nat) (hx : x < 2 ^ 256) (w : World)
    (k1 : ∀ W, Calls Tryd.prog 29 #[I5 true x] W fun e w' => e = .returned (.bool true) ∧ Below W.heap.size W w')
    (k2 : ∀ W, Calls Tryd.prog 54 #[I5 true x] W fun e w' => e = .returned (.bool false) ∧ Below W.heap.size W w') :
    Calls Tryd.prog 49 #[I5 true x, .bool up, .bool false] w fun e w' => e = .returned (.tuple #[I5 true x, .bool true]) ∧ Below w.heap.size w w' := by
  unfold I5 at *
  have HX := Lib.hid hx; have K1 := Lib.hid k1; have K2 := Lib.hid k2; clear hx k1 k2
  have L1 := Lib.hid (digs_eight HX.out); have L2 := Lib.hid (digs_eight (show 1 < 2 ^ 256 by decide)); have L3 := Lib.hid (digs_eight (show 2 ^ 53 < 2 ^ 256 by decide))
  go_enter Tryd.func49, Tryd.ntmps49
  go_wp2_with fail
  refine (K1.out _).mono ?_
  rintro e w1 ⟨rfl, hb⟩
  have BW1 : Below w.heap.size w w1 := btr (by repeat (first | (with_reducible exact Below.refl _ _) | (with_reducible refine bal ?_ _) | (with_reducible refine Below.drew ?_) | (with_reducible refine bdn ?_ _))) hb
  have X1 : Row5 w1 w.heap.size (.bool true) (.int .u64 (lb 0 x)) (.int .u64 (lb 1 x)) (.int .u64 (lb 2 x)) (.int .u64 (lb 3 x)) := Row5.keep hb (by repeat (first | (with_reducible exact Row5.new _ _ _ _ _ _) | ((with_reducible refine Row5.new' _ ?_ _ _ _ _ _); (simp; done)) | (with_reducible refine Row5.alloc ?_ _) | (with_reducible refine Row5.drew ?_)))
  have R1 : Row5 w1 (w.heap.size + 1) (.bool false) (.int .u64 0) (.int .u64 0) (.int .u64 0) (.int .u64 0) := Row5.keep hb (by repeat (first | (with_reducible exact Row5.new _ _ _ _ _ _) | ((with_reducible refine Row5.new' _ ?_ _ _ _ _ _); (simp; done)) | (with_reducible refine Row5.alloc ?_ _) | (with_reducible refine Row5.drew ?_)))
  clear hb
  obtain ⟨Xc0, Xc1, Xc2, Xc3, Xc4⟩ := X1.parts
  obtain ⟨Xf0, Xf1, Xf2, Xf3, Xf4⟩ := X1.free
  go_wp2_with fail
  refine (K2.out _).mono ?_
  rintro e w2 ⟨rfl, hb⟩
  have BW2 : Below w.heap.size w w2 := btr (by repeat (first | (with_reducible exact BW1) | (with_reducible refine bal ?_ _) | (with_reducible refine Below.drew ?_) | (with_reducible refine bdn ?_ _))) hb
  have X2 : Row5 w2 w.heap.size (.bool true) (.int .u64 (lb 0 x)) (.int .u64 (lb 1 x)) (.int .u64 (lb 2 x)) (.int .u64 (lb 3 x)) := Row5.keep hb (by repeat (first | (with_reducible exact X1) | (with_reducible refine Row5.alloc ?_ _) | (with_reducible refine Row5.drew ?_)))
  have R2 : Row5 w2 (w.heap.size + 1) (.bool false) (.int .u64 0) (.int .u64 0) (.int .u64 0) (.int .u64 0) := Row5.keep hb (by repeat (first | (with_reducible exact R1) | (with_reducible refine Row5.alloc ?_ _) | (with_reducible refine Row5.drew ?_)))
  clear X1 R1
  clear BW1
  clear hb
  obtain ⟨Xc0, Xc1, Xc2, Xc3, Xc4⟩ := X2.parts
  obtain ⟨Xf0, Xf1, Xf2, Xf3, Xf4⟩ := X2.free
  have nrx : ¬ w.heap.size + 1 = w.heap.size := by omega
  obtain ⟨Rc0, Rc1, Rc2, Rc3, Rc4⟩ := R2.parts
  obtain ⟨Rf0, Rf1, Rf2, Rf3, Rf4⟩ := R2.free
  have lt_R := R2.lt
  go_wp2
  exact bodyPost_ret (v := .tuple #[.agg #[.bool true, .int .u64 (lb 0 x), .int .u64 (lb 1 x), .int .u64 (lb 2 x), .int .u64 (lb 3 x)], .bool true]) (by simp [results, Tryd.results49, go_sem, Rc0, Rc1, Rc2, Rc3, Rc4]) rfl ⟨rfl, by repeat (first | (with_reducible exact BW2) | (with_reducible refine bal ?_ _) | (with_reducible refine Below.drew ?_) | (with_reducible refine bdn ?_ _) | ((with_reducible refine bsc ?_ ?_ _); rotate_left; (focus (simp only []; omega))))⟩
set_option maxHeartbeats 4000000 in
set_option maxRecDepth 100000 in
theorem rnear_same_true_true (up : Bool) (x : Nat) (hx : x < 2 ^ 256) (w : World)
    (k1 : ∀ W, Calls Tryd.prog 29 #[I5 true x] W fun e w' => e = .returned (.bool true) ∧ Below W.heap.size W w')
    (k2 : ∀ W, Calls Tryd.prog 54 #[I5 true x] W fun e w' => e = .returned (.bool true) ∧ Below W.heap.size W w') :
    Calls Tryd.prog 49 #[I5 true x, .bool up, .bool true] w fun e w' => e = .returned (.tuple #[I5 true x, .bool true]) ∧ Below w.heap.size w w' := by
  unfold I5 at *
  have HX := Lib.hid hx; have K1 := Lib.hid k1; have K2 := Lib.hid k2; clear hx k1 k2
  have L1 := Lib.hid (digs_eight HX.out); have L2 := Lib.hid (digs_eight (show 1 < 2 ^ 256 by decide)); have L3 := Lib.hid (digs_eight (show 2 ^ 53 < 2 ^ 256 by decide))
  go_enter Tryd.func49, Tryd.ntmps49
  go_wp2_with fail
  refine (K1.out _).mono ?_
  rintro e w1 ⟨rfl, hb⟩
  have BW1 : Below w.heap.size w w1 := btr (by repeat (first | (with_reducible exact Below.refl _ _) | (with_reducible refine bal ?_ _) | (with_reducible refine Below.drew ?_) | (with_reducible refine bdn ?_ _))) hb
  have X1 : Row5 w1 w.heap.size (.bool true) (.int .u64 (lb 0 x)) (.int .u64 (lb 1 x)) (.int .u64 (lb 2 x)) (.int .u64 (lb 3 x)) := Row5.keep hb (by repeat (first | (with_reducible exact Row5.new _ _ _ _ _ _) | ((with_reducible refine Row5.new' _ ?_ _ _ _ _ _); (simp; done)) | (with_reducible refine Row5.alloc ?_ _) | (with_reducible refine Row5.drew ?_)))
  have R1 : Row5 w1 (w.heap.size + 1) (.bool false) (.int .u64 0) (.int .u64 0) (.int .u64 0) (.int .u64 0) := Row5.keep hb (by repeat (first | (with_reducible exact Row5.new _ _ _ _ _ _) | ((with_reducible refine Row5.new' _ ?_ _ _ _ _ _); (simp; done)) | (with_reducible refine Row5.alloc ?_ _) | (with_reducible refine Row5.drew ?_)))
  clear hb
  obtain ⟨Xc0, Xc1, Xc2, Xc3, Xc4⟩ := X1.parts
  obtain ⟨Xf0, Xf1, Xf2, Xf3, Xf4⟩ := X1.free
  go_wp2_with fail
  refine (K2.out _).mono ?_
  rintro e w2 ⟨rfl, hb⟩
  have BW2 : Below w.heap.size w w2 := btr (by repeat (first | (with_reducible exact BW1) | (with_reducible refine bal ?_ _) | (with_reducible refine Below.drew ?_) | (with_reducible refine bdn ?_ _))) hb
  have X2 : Row5 w2 w.heap.size (.bool true) (.int .u64 (lb 0 x)) (.int .u64 (lb 1 x)) (.int .u64 (lb 2 x)) (.int .u64 (lb 3 x)) := Row5.keep hb (by repeat (first | (with_reducible exact X1) | (with_reducible refine Row5.alloc ?_ _) | (with_reducible refine Row5.drew ?_)))
  have R2 : Row5 w2 (w.heap.size + 1) (.bool false) (.int .u64 0) (.int .u64 0) (.int .u64 0) (.int .u64 0) := Row5.keep hb (by repeat (first | (with_reducible exact R1) | (with_reducible refine Row5.alloc ?_ _) | (with_reducible refine Row5.drew ?_)))
  clear X1 R1
  clear BW1
  clear hb
  obtain ⟨Xc0, Xc1, Xc2, Xc3, Xc4⟩ := X2.parts
  obtain ⟨Xf0, Xf1, Xf2, Xf3, Xf4⟩ := X2.free
  have nrx : ¬ w.heap.size + 1 = w.heap.size := by omega
  obtain ⟨Rc0, Rc1, Rc2, Rc3, Rc4⟩ := R2.parts
  obtain ⟨Rf0, Rf1, Rf2, Rf3, Rf4⟩ := R2.free
  have lt_R := R2.lt
  go_wp2
  exact bodyPost_ret (v := .tuple #[.agg #[.bool true, .int .u64 (lb 0 x), .int .u64 (lb 1 x), .int .u64 (lb 2 x), .int .u64 (lb 3 x)], .bool true]) (by simp [results, Tryd.results49, go_sem, Rc0, Rc1, Rc2, Rc3, Rc4]) rfl ⟨rfl, by repeat (first | (with_reducible exact BW2) | (with_reducible refine bal ?_ _) | (with_reducible refine Below.drew ?_) | (with_reducible refine bdn ?_ _) | ((with_reducible refine bsc ?_ ?_ _); rotate_left; (focus (simp only []; omega))))⟩
set_option maxHeartbeats 4000000 in
set_option maxRecDepth 100000 in
theorem rnear_cutup_true (x : Nat) (hx : x < 2 ^ 256) (h : Bool) (y0 y1 y2 y3 : Int) (b : Bool) (L k q v : Nat) (hk : (L : Int) - 53 = (k : Int)) (hk2 : k ≤ 300) (hq : q < 2 ^ 256) (w : World)
    (k1 : ∀ W, Calls Tryd.prog 29 #[I5 true x] W fun e w' => e = .returned (.bool true) ∧ Below W.heap.size W w')
    (k2 : ∀ W, Calls Tryd.prog 54 #[I5 true x] W fun e w' => e = .returned (.bool false) ∧ Below W.heap.size W w')
    (k3 : ∀ s' W, DR W s' x → Calls Tryd.prog 12 #[s'] W fun e w' => e = .returned (.int .i64 (L : Int)) ∧ Below W.heap.size W w')
    (k4 : ∀ s' W, DR W s' x → Calls Tryd.prog 13 #[s', .int .i64 (-(k : Int))] W fun e w' => ∃ s2, e = .returned s2 ∧ DR w' s2 q ∧ Below W.heap.size W w')
    (k5 : ∀ s' W, DR W s' (q + 1) → Calls Tryd.prog 13 #[s', .int .i64 (k : Int)] W fun e w' => ∃ s2, e = .returned s2 ∧ DR w' s2 v ∧ Below W.heap.size W w')
    (kw : ∀ s' W, DR W s' v → Calls Tryd.prog 85 #[.bool true, s'] W fun e w' => e = .returned (.tuple #[.agg #[.bool h, .int .u64 y0, .int .u64 y1, .int .u64 y2, .int .u64 y3], .bool b]) ∧ Below W.heap.size W w') :
    Calls Tryd.prog 49 #[I5 true x, .bool false, .bool true] w fun e w' => e = .returned (.tuple #[.agg #[.bool h, .int .u64 y0, .int .u64 y1, .int .u64 y2, .int .u64 y3], .bool b]) ∧ Below w.heap.size w w' := by
  unfold I5 at *
  have HX := Lib.hid hx; have K1 := Lib.hid k1; have K2 := Lib.hid k2; have K3 := Lib.hid k3; have K4 := Lib.hid k4; have K5 := Lib.hid k5; have KW := Lib.hid kw; clear hx k1 k2 k3 k4 k5 kw
  have L1 := Lib.hid (digs_eight HX.out); have L2 := Lib.hid (digs_eight (show 1 < 2 ^ 256 by decide)); have L3 := Lib.hid (digs_eight (show 2 ^ 53 < 2 ^ 256 by decide))
  have LQ := Lib.hid (digs_eight hq); clear hq
  go_enter Tryd.func49, Tryd.ntmps49
  go_wp2_with fail
  refine (K1.out _).mono ?_
  rintro e w1 ⟨rfl, hb⟩
  have BW1 : Below w.heap.size w w1 := btr (by repeat (first | (with_reducible exact Below.refl _ _) | (with_reducible refine bal ?_ _) | (with_reducible refine Below.drew ?_) | (with_reducible refine bdn ?_ _))) hb
  have X1 : Row5 w1 w.heap.size (.bool true) (.int .u64 (lb 0 x)) (.int .u64 (lb 1 x)) (.int .u64 (lb 2 x)) (.int .u64 (lb 3 x)) := Row5.keep hb (by repeat (first | (with_reducible exact Row5.new _ _ _ _ _ _) | ((with_reducible refine Row5.new' _ ?_ _ _ _ _ _); (simp; done)) | (with_reducible refine Row5.alloc ?_ _) | (with_reducible refine Row5.drew ?_)))
  have R1 : Row5 w1 (w.heap.size + 1) (.bool false) (.int .u64 0) (.int .u64 0) (.int .u64 0) (.int .u64 0) := Row5.keep hb (by repeat (first | (with_reducible exact Row5.new _ _ _ _ _ _) | ((with_reducible refine Row5.new' _ ?_ _ _ _ _ _); (simp; done)) | (with_reducible refine Row5.alloc ?_ _) | (with_reducible refine Row5.drew ?_)))
  clear hb
  obtain ⟨Xc0, Xc1, Xc2, Xc3, Xc4⟩ := X1.parts
  obtain ⟨Xf0, Xf1, Xf2, Xf3, Xf4⟩ := X1.free
  go_wp2_with fail
  refine (K2.out _).mono ?_
  rintro e w2 ⟨rfl, hb⟩
  have BW2 : Below w.heap.size w w2 := btr (by repeat (first | (with_reducible exact BW1) | (with_reducible refine bal ?_ _) | (with_reducible refine Below.drew ?_) | (with_reducible refine bdn ?_ _))) hb
  have X2 : Row5 w2 w.heap.size (.bool true) (.int .u64 (lb 0 x)) (.int .u64 (lb 1 x)) (.int .u64 (lb 2 x)) (.int .u64 (lb 3 x)) := Row5.keep hb (by repeat (first | (with_reducible exact X1) | (with_reducible refine Row5.alloc ?_ _) | (with_reducible refine Row5.drew ?_)))
  have R2 : Row5 w2 (w.heap.size + 1) (.bool false) (.int .u64 0) (.int .u64 0) (.int .u64 0) (.int .u64 0) := Row5.keep hb (by repeat (first | (with_reducible exact R1) | (with_reducible refine Row5.alloc ?_ _) | (with_reducible refine Row5.drew ?_)))
  clear X1 R1
  clear BW1
  clear hb
  obtain ⟨Xc0, Xc1, Xc2, Xc3, Xc4⟩ := X2.parts
  obtain ⟨Xf0, Xf1, Xf2, Xf3, Xf4⟩ := X2.free
  go_wp2_with fail
  refine (rof x HX.out _).mono ?_
  rintro e w3 ⟨s1, rfl, hr, hb⟩
  have hbX : Below w2.heap.size w2 w3 := btr (by repeat (first | (with_reducible exact Below.refl _ _) | (with_reducible refine bal ?_ _) | (with_reducible refine Below.drew ?_) | (with_reducible refine bdn ?_ _))) hb
  clear hbX
  have DX3 : DR w3 s1 x := hr
  clear hr
  have BW3 : Below w.heap.size w w3 := btr (by repeat (first | (with_reducible exact BW2) | (with_reducible refine bal ?_ _) | (with_reducible refine Below.drew ?_) | (with_reducible refine bdn ?_ _))) hb
  have X3 : Row5 w3 w.heap.size (.bool true) (.int .u64 (lb 0 x)) (.int .u64 (lb 1 x)) (.int .u64 (lb 2 x)) (.int .u64 (lb 3 x)) := Row5.keep hb (by repeat (first | (with_reducible exact X2) | (with_reducible refine Row5.alloc ?_ _) | (with_reducible refine Row5.drew ?_)))
  have R3 : Row5 w3 (w.heap.size + 1) (.bool false) (.int .u64 0) (.int .u64 0) (.int .u64 0) (.int .u64 0) := Row5.keep hb (by repeat (first | (with_reducible exact R2) | (with_reducible refine Row5.alloc ?_ _) | (with_reducible refine Row5.drew ?_)))
  clear X2 R2
  clear BW2
  clear hb
  obtain ⟨Xc0, Xc1, Xc2, Xc3, Xc4⟩ := X3.parts
  obtain ⟨Xf0, Xf1, Xf2, Xf3, Xf4⟩ := X3.free
  go_wp2_with fail
  refine (K3.out _ _ (DR.keep (by repeat (first | (with_reducible exact Below.refl _ _) | (with_reducible refine bal ?_ _) | (with_reducible refine Below.drew ?_) | (with_reducible refine bdn ?_ _))) DX3)).mono ?_
  rintro e w4 ⟨rfl, hb⟩
  have hbX : Below w3.heap.size w3 w4 := btr (by repeat (first | (with_reducible exact Below.refl _ _) | (with_reducible refine bal ?_ _) | (with_reducible refine Below.drew ?_) | (with_reducible refine bdn ?_ _))) hb
  have DX4 : DR w4 s1 x := DR.keep hbX DX3
  clear DX3
  clear hbX
  have BW4 : Below w.heap.size w w4 := btr (by repeat (first | (with_reducible exact BW3) | (with_reducible refine bal ?_ _) | (with_reducible refine Below.drew ?_) | (with_reducible refine bdn ?_ _))) hb
  have X4 : Row5 w4 w.heap.size (.bool true) (.int .u64 (lb 0 x)) (.int .u64 (lb 1 x)) (.int .u64 (lb 2 x)) (.int .u64 (lb 3 x)) := Row5.keep hb (by repeat (first | (with_reducible exact X3) | (with_reducible refine Row5.alloc ?_ _) | (with_reducible refine Row5.drew ?_)))
  have R4 : Row5 w4 (w.heap.size + 1) (.bool false) (.int .u64 0) (.int .u64 0) (.int .u64 0) (.int .u64 0) := Row5.keep hb (by repeat (first | (with_reducible exact R3) | (with_reducible refine Row5.alloc ?_ _) | (with_reducible refine Row5.drew ?_)))
  clear X3 R3
  clear BW3
  clear hb
  go_wp2_with fail
  refine (K4.out _ _ (DR.keep (by repeat (first | (with_reducible exact Below.refl _ _) | (with_reducible refine bal ?_ _) | (with_reducible refine Below.drew ?_) | (with_reducible refine bdn ?_ _))) DX4)).mono ?_
  rintro e w5 ⟨s2, rfl, hr, hb⟩
  have hbX : Below w4.heap.size w4 w5 := btr (by repeat (first | (with_reducible exact Below.refl _ _) | (with_reducible refine bal ?_ _) | (with_reducible refine Below.drew ?_) | (with_reducible refine bdn ?_ _))) hb
  have DX5 : DR w5 s1 x := DR.keep hbX DX4
  clear DX4
  clear hbX
  have DQ5 : DR w5 s2 q := hr
  clear hr
  have BW5 : Below w.heap.size w w5 := btr (by repeat (first | (with_reducible exact BW4) | (with_reducible refine bal ?_ _) | (with_reducible refine Below.drew ?_) | (with_reducible refine bdn ?_ _))) hb
  have X5 : Row5 w5 w.heap.size (.bool true) (.int .u64 (lb 0 x)) (.int .u64 (lb 1 x)) (.int .u64 (lb 2 x)) (.int .u64 (lb 3 x)) := Row5.keep hb (by repeat (first | (with_reducible exact X4) | (with_reducible refine Row5.alloc ?_ _) | (with_reducible refine Row5.drew ?_)))
  have R5 : Row5 w5 (w.heap.size + 1) (.bool false) (.int .u64 0) (.int .u64 0) (.int .u64 0) (.int .u64 0) := Row5.keep hb (by repeat (first | (with_reducible exact R4) | (with_reducible refine Row5.alloc ?_ _) | (with_reducible refine Row5.drew ?_)))
  clear X4 R4
  clear BW4
  clear hb
  go_wp2_with fail
  refine (radd (DR.keep (by repeat (first | (with_reducible exact Below.refl _ _) | (with_reducible refine bal ?_ _) | (with_reducible refine Below.drew ?_) | (with_reducible refine bdn ?_ _))) DQ5) (DR.keep (by repeat (first | (with_reducible exact Below.refl _ _) | (with_reducible refine bal ?_ _) | (with_reducible refine Below.drew ?_) | (with_reducible refine bdn ?_ _))) (ten_new w5 1 (by decide) (by decide) 1 rfl)) LQ.out L2.out).mono ?_
  rintro e w6 ⟨s3, rfl, hr, hb⟩
  have hbX : Below w5.heap.size w5 w6 := btr (by repeat (first | (with_reducible exact Below.refl _ _) | (with_reducible refine bal ?_ _) | (with_reducible refine Below.drew ?_) | (with_reducible refine bdn ?_ _))) hb
  have DX6 : DR w6 s1 x := DR.keep hbX DX5
  have DQ6 : DR w6 s2 q := DR.keep hbX DQ5
  clear DX5 DQ5
  clear hbX
  have DE6 : DR w6 s3 (q + 1) := hr
  clear hr
  have BW6 : Below w.heap.size w w6 := btr (by repeat (first | (with_reducible exact BW5) | (with_reducible refine bal ?_ _) | (with_reducible refine Below.drew ?_) | (with_reducible refine bdn ?_ _))) hb
  have X6 : Row5 w6 w.heap.size (.bool true) (.int .u64 (lb 0 x)) (.int .u64 (lb 1 x)) (.int .u64 (lb 2 x)) (.int .u64 (lb 3 x)) := Row5.keep hb (by repeat (first | (with_reducible exact X5) | (with_reducible refine Row5.alloc ?_ _) | (with_reducible refine Row5.drew ?_)))
  have R6 : Row5 w6 (w.heap.size + 1) (.bool false) (.int .u64 0) (.int .u64 0) (.int .u64 0) (.int .u64 0) := Row5.keep hb (by repeat (first | (with_reducible exact R5) | (with_reducible refine Row5.alloc ?_ _) | (with_reducible refine Row5.drew ?_)))
  clear X5 R5
  clear BW5
  clear hb
  go_upto_region 12 with (fail)
  go_name_world w7 hw7
  have BW7 : Below w.heap.size w w7 := by rw [← hw7]; repeat (first | (with_reducible exact BW6) | (with_reducible refine bal ?_ _) | (with_reducible refine Below.drew ?_) | (with_reducible refine bdn ?_ _))
  have hbX : Below w6.heap.size w6 w7 := by rw [← hw7]; repeat (first | (with_reducible exact Below.refl _ _) | (with_reducible refine bal ?_ _) | (with_reducible refine Below.drew ?_) | (with_reducible refine bdn ?_ _))
  have DX7 : DR w7 s1 x := DR.keep hbX DX6
  have DQ7 : DR w7 s2 q := DR.keep hbX DQ6
  have DE7 : DR w7 s3 (q + 1) := DR.keep hbX DE6
  clear hbX DX6 DQ6 DE6
  have X7 : Row5 w7 w.heap.size (.bool true) (.int .u64 (lb 0 x)) (.int .u64 (lb 1 x)) (.int .u64 (lb 2 x)) (.int .u64 (lb 3 x)) := by rw [← hw7]; exact (by repeat (first | (with_reducible exact X6) | (with_reducible refine Row5.alloc ?_ _) | (with_reducible refine Row5.drew ?_)))
  have R7 : Row5 w7 (w.heap.size + 1) (.bool false) (.int .u64 0) (.int .u64 0) (.int .u64 0) (.int .u64 0) := by rw [← hw7]; exact (by repeat (first | (with_reducible exact R6) | (with_reducible refine Row5.alloc ?_ _) | (with_reducible refine Row5.drew ?_)))
  clear X6 R6
  clear BW6
  clear hw7
  have lt_X := X7.lt
  have lt_R := R7.lt
  go_region_held3 (fun w' => w'.cell? ⟨w.heap.size, 0, none⟩ = some (.bool true) ∧ w'.cell? ⟨w.heap.size, 1, none⟩ = some (.int .u64 (lb 0 x)) ∧ w'.cell? ⟨w.heap.size, 2, none⟩ = some (.int .u64 (lb 1 x)) ∧ w'.cell? ⟨w.heap.size, 3, none⟩ = some (.int .u64 (lb 2 x)) ∧ w'.cell? ⟨w.heap.size, 4, none⟩ = some (.int .u64 (lb 3 x)))
    ((refine Row5.parts ?_; (repeat (first | (with_reducible assumption) | (with_reducible refine Row5.alloc ?_ _) | (with_reducible refine Row5.drew ?_) | (with_reducible refine Row5.drewN ?_ _) | ((with_reducible refine Row5.set ?_ ?_ _); rotate_left; (focus (omega))))); done))
    (first | (go_at_call 13; (with_reducible refine (K5.out _ _ (DR.keep (by repeat (first | (with_reducible exact Below.refl _ _) | (with_reducible refine bal ?_ _) | (with_reducible refine Below.drew ?_) | (with_reducible refine bdn ?_ _))) DE7)).mono ?_); rintro e wa ⟨sa, rfl, hra, hba⟩; have ba : Below w.heap.size w wa := btr (by repeat (first | (with_reducible exact BW7) | (with_reducible refine bal ?_ _) | (with_reducible refine Below.drew ?_) | (with_reducible refine bdn ?_ _))) hba; have Xa : Row5 wa w.heap.size (.bool true) (.int .u64 (lb 0 x)) (.int .u64 (lb 1 x)) (.int .u64 (lb 2 x)) (.int .u64 (lb 3 x)) := Row5.keep hba (by repeat (first | (with_reducible exact X7) | (with_reducible refine Row5.alloc ?_ _) | (with_reducible refine Row5.drew ?_) | (with_reducible refine Row5.drewN ?_ _))); have Ra : Row5 wa (w.heap.size + 1) (.bool false) (.int .u64 0) (.int .u64 0) (.int .u64 0) (.int .u64 0) := Row5.keep hba (by repeat (first | (with_reducible exact R7) | (with_reducible refine Row5.alloc ?_ _) | (with_reducible refine Row5.drew ?_) | (with_reducible refine Row5.drewN ?_ _))); obtain ⟨xa0, xa1, xa2, xa3, xa4⟩ := Xa.parts) | (go_at_call 85; (with_reducible refine (KW.out _ _ (DR.keep (by repeat (first | (with_reducible exact Below.refl _ _) | (with_reducible refine bal ?_ _) | (with_reducible refine Below.drew ?_) | (with_reducible refine bdn ?_ _))) hra)).mono ?_); rintro e wb ⟨rfl, hbb⟩; have bb : Below w.heap.size w wb := btr (by repeat (first | (with_reducible exact ba) | (with_reducible refine bal ?_ _) | (with_reducible refine Below.drew ?_) | (with_reducible refine bdn ?_ _))) hbb; have Rb : Row5 wb (w.heap.size + 1) (.bool false) (.int .u64 0) (.int .u64 0) (.int .u64 0) (.int .u64 0) := Row5.keep hbb (by repeat (first | (with_reducible exact Ra) | (with_reducible refine Row5.alloc ?_ _) | (with_reducible refine Row5.drew ?_) | (with_reducible refine Row5.drewN ?_ _))); have Xb : Row5 wb w.heap.size (.bool true) (.int .u64 (lb 0 x)) (.int .u64 (lb 1 x)) (.int .u64 (lb 2 x)) (.int .u64 (lb 3 x)) := Row5.keep hbb (by repeat (first | (with_reducible exact Xa) | (with_reducible refine Row5.alloc ?_ _) | (with_reducible refine Row5.drew ?_) | (with_reducible refine Row5.drewN ?_ _))); obtain ⟨rb0, rb1, rb2, rb3, rb4⟩ := Rb.parts; obtain ⟨rg0, rg1, rg2, rg3, rg4⟩ := Rb.free; have ltb := Rb.lt; have ltc := Xb.lt; have nbx : ¬ w.heap.size + 1 = w.heap.size := by omega))
  all_goals
    go_wp2
    exact bodyPost_ret (v := .tuple #[.agg #[.bool h, .int .u64 y0, .int .u64 y1, .int .u64 y2, .int .u64 y3], .bool b]) (by simp [results, Tryd.results49, go_sem, rb0, rb1, rb2, rb3, rb4]) rfl ⟨rfl, by repeat (first | (with_reducible exact bb) | (with_reducible refine bal ?_ _) | (with_reducible refine Below.drew ?_) | (with_reducible refine bdn ?_ _) | ((with_reducible refine bsc ?_ ?_ _); rotate_left; (focus (simp only []; omega))))⟩
set_option maxHeartbeats 4000000 in
set_option maxRecDepth 100000 in
theorem rnear_cut_true (x : Nat) (hx : x < 2 ^ 256) (h : Bool) (y0 y1 y2 y3 : Int) (b : Bool) (L k q v : Nat) (hk : (L : Int) - 53 = (k : Int)) (hk2 : k ≤ 300) (w : World)
    (k1 : ∀ W, Calls Tryd.prog 29 #[I5 true x] W fun e w' => e = .returned (.bool true) ∧ Below W.heap.size W w')
    (k2 : ∀ W, Calls Tryd.prog 54 #[I5 true x] W fun e w' => e = .returned (.bool false) ∧ Below W.heap.size W w')
    (k3 : ∀ s' W, DR W s' x → Calls Tryd.prog 12 #[s'] W fun e w' => e = .returned (.int .i64 (L : Int)) ∧ Below W.heap.size W w')
    (k4 : ∀ s' W, DR W s' x → Calls Tryd.prog 13 #[s', .int .i64 (-(k : Int))] W fun e w' => ∃ s2, e = .returned s2 ∧ DR w' s2 q ∧ Below W.heap.size W w')
    (k5 : ∀ s' W, DR W s' q → Calls Tryd.prog 13 #[s', .int .i64 (k : Int)] W fun e w' => ∃ s2, e = .returned s2 ∧ DR w' s2 v ∧ Below W.heap.size W w')
    (kw : ∀ s' W, DR W s' v → Calls Tryd.prog 85 #[.bool true, s'] W fun e w' => e = .returned (.tuple #[.agg #[.bool h, .int .u64 y0, .int .u64 y1, .int .u64 y2, .int .u64 y3], .bool b]) ∧ Below W.heap.size W w') :
    Calls Tryd.prog 49 #[I5 true x, .bool true, .bool true] w fun e w' => e = .returned (.tuple #[.agg #[.bool h, .int .u64 y0, .int .u64 y1, .int .u64 y2, .int .u64 y3], .bool b]) ∧ Below w.heap.size w w' := by
  unfold I5 at *
  have HX := Lib.hid hx; have K1 := Lib.hid k1; have K2 := Lib.hid k2; have K3 := Lib.hid k3; have K4 := Lib.hid k4; have K5 := Lib.hid k5; have KW := Lib.hid kw; clear hx k1 k2 k3 k4 k5 kw
  have L1 := Lib.hid (digs_eight HX.out); have L2 := Lib.hid (digs_eight (show 1 < 2 ^ 256 by decide)); have L3 := Lib.hid (digs_eight (show 2 ^ 53 < 2 ^ 256 by decide))
  go_enter Tryd.func49, Tryd.ntmps49
  go_wp2_with fail
  refine (K1.out _).mono ?_
  rintro e w1 ⟨rfl, hb⟩
  have BW1 : Below w.heap.size w w1 := btr (by repeat (first | (with_reducible exact Below.refl _ _) | (with_reducible refine bal ?_ _) | (with_reducible refine Below.drew ?_) | (with_reducible refine bdn ?_ _))) hb
  have X1 : Row5 w1 w.heap.size (.bool true) (.int .u64 (lb 0 x)) (.int .u64 (lb 1 x)) (.int .u64 (lb 2 x)) (.int .u64 (lb 3 x)) := Row5.keep hb (by repeat (first | (with_reducible exact Row5.new _ _ _ _ _ _) | ((with_reducible refine Row5.new' _ ?_ _ _ _ _ _); (simp; done)) | (with_reducible refine Row5.alloc ?_ _) | (with_reducible refine Row5.drew ?_)))
  have R1 : Row5 w1 (w.heap.size + 1) (.bool false) (.int .u64 0) (.int .u64 0) (.int .u64 0) (.int .u64 0) := Row5.keep hb (by repeat (first | (with_reducible exact Row5.new _ _ _ _ _ _) | ((with_reducible refine Row5.new' _ ?_ _ _ _ _ _); (simp; done)) | (with_reducible refine Row5.alloc ?_ _) | (with_reducible refine Row5.drew ?_)))
  clear hb
  obtain ⟨Xc0, Xc1, Xc2, Xc3, Xc4⟩ := X1.parts
  obtain ⟨Xf0, Xf1, Xf2, Xf3, Xf4⟩ := X1.free
  go_wp2_with fail
  refine (K2.out _).mono ?_
  rintro e w2 ⟨rfl, hb⟩
  have BW2 : Below w.heap.size w w2 := btr (by repeat (first | (with_reducible exact BW1) | (with_reducible refine bal ?_ _) | (with_reducible refine Below.drew ?_) | (with_reducible refine bdn ?_ _))) hb
  have X2 : Row5 w2 w.heap.size (.bool true) (.int .u64 (lb 0 x)) (.int .u64 (lb 1 x)) (.int .u64 (lb 2 x)) (.int .u64 (lb 3 x)) := Row5.keep hb (by repeat (first | (with_reducible exact X1) | (with_reducible refine Row5.alloc ?_ _) | (with_reducible refine Row5.drew ?_)))
  have R2 : Row5 w2 (w.heap.size + 1) (.bool false) (.int .u64 0) (.int .u64 0) (.int .u64 0) (.int .u64 0) := Row5.keep hb (by repeat (first | (with_reducible exact R1) | (with_reducible refine Row5.alloc ?_ _) | (with_reducible refine Row5.drew ?_)))
  clear X1 R1
  clear BW1
  clear hb
  obtain ⟨Xc0, Xc1, Xc2, Xc3, Xc4⟩ := X2.parts
  obtain ⟨Xf0, Xf1, Xf2, Xf3, Xf4⟩ := X2.free
  go_wp2_with fail
  refine (rof x HX.out _).mono ?_
  rintro e w3 ⟨s1, rfl, hr, hb⟩
  have hbX : Below w2.heap.size w2 w3 := btr (by repeat (first | (with_reducible exact Below.refl _ _) | (with_reducible refine bal ?_ _) | (with_reducible refine Below.drew ?_) | (with_reducible refine bdn ?_ _))) hb
  clear hbX
  have DX3 : DR w3 s1 x := hr
  clear hr
  have BW3 : Below w.heap.size w w3 := btr (by repeat (first | (with_reducible exact BW2) | (with_reducible refine bal ?_ _) | (with_reducible refine Below.drew ?_) | (with_reducible refine bdn ?_ _))) hb
  have X3 : Row5 w3 w.heap.size (.bool true) (.int .u64 (lb 0 x)) (.int .u64 (lb 1 x)) (.int .u64 (lb 2 x)) (.int .u64 (lb 3 x)) := Row5.keep hb (by repeat (first | (with_reducible exact X2) | (with_reducible refine Row5.alloc ?_ _) | (with_reducible refine Row5.drew ?_)))
  have R3 : Row5 w3 (w.heap.size + 1) (.bool false) (.int .u64 0) (.int .u64 0) (.int .u64 0) (.int .u64 0) := Row5.keep hb (by repeat (first | (with_reducible exact R2) | (with_reducible refine Row5.alloc ?_ _) | (with_reducible refine Row5.drew ?_)))
  clear X2 R2
  clear BW2
  clear hb
  obtain ⟨Xc0, Xc1, Xc2, Xc3, Xc4⟩ := X3.parts
  obtain ⟨Xf0, Xf1, Xf2, Xf3, Xf4⟩ := X3.free
  go_wp2_with fail
  refine (K3.out _ _ (DR.keep (by repeat (first | (with_reducible exact Below.refl _ _) | (with_reducible refine bal ?_ _) | (with_reducible refine Below.drew ?_) | (with_reducible refine bdn ?_ _))) DX3)).mono ?_
  rintro e w4 ⟨rfl, hb⟩
  have hbX : Below w3.heap.size w3 w4 := btr (by repeat (first | (with_reducible exact Below.refl _ _) | (with_reducible refine bal ?_ _) | (with_reducible refine Below.drew ?_) | (with_reducible refine bdn ?_ _))) hb
  have DX4 : DR w4 s1 x := DR.keep hbX DX3
  clear DX3
  clear hbX
  have BW4 : Below w.heap.size w w4 := btr (by repeat (first | (with_reducible exact BW3) | (with_reducible refine bal ?_ _) | (with_reducible refine Below.drew ?_) | (with_reducible refine bdn ?_ _))) hb
  have X4 : Row5 w4 w.heap.size (.bool true) (.int .u64 (lb 0 x)) (.int .u64 (lb 1 x)) (.int .u64 (lb 2 x)) (.int .u64 (lb 3 x)) := Row5.keep hb (by repeat (first | (with_reducible exact X3) | (with_reducible refine Row5.alloc ?_ _) | (with_reducible refine Row5.drew ?_)))
  have R4 : Row5 w4 (w.heap.size + 1) (.bool false) (.int .u64 0) (.int .u64 0) (.int .u64 0) (.int .u64 0) := Row5.keep hb (by repeat (first | (with_reducible exact R3) | (with_reducible refine Row5.alloc ?_ _) | (with_reducible refine Row5.drew ?_)))
  clear X3 R3
  clear BW3
  clear hb
  go_wp2_with fail
  refine (K4.out _ _ (DR.keep (by repeat (first | (with_reducible exact Below.refl _ _) | (with_reducible refine bal ?_ _) | (with_reducible refine Below.drew ?_) | (with_reducible refine bdn ?_ _))) DX4)).mono ?_
  rintro e w5 ⟨s2, rfl, hr, hb⟩
  have hbX : Below w4.heap.size w4 w5 := btr (by repeat (first | (with_reducible exact Below.refl _ _) | (with_reducible refine bal ?_ _) | (with_reducible refine Below.drew ?_) | (with_reducible refine bdn ?_ _))) hb
  have DX5 : DR w5 s1 x := DR.keep hbX DX4
  clear DX4
  clear hbX
  have DQ5 : DR w5 s2 q := hr
  clear hr
  have BW5 : Below w.heap.size w w5 := btr (by repeat (first | (with_reducible exact BW4) | (with_reducible refine bal ?_ _) | (with_reducible refine Below.drew ?_) | (with_reducible refine bdn ?_ _))) hb
  have X5 : Row5 w5 w.heap.size (.bool true) (.int .u64 (lb 0 x)) (.int .u64 (lb 1 x)) (.int .u64 (lb 2 x)) (.int .u64 (lb 3 x)) := Row5.keep hb (by repeat (first | (with_reducible exact X4) | (with_reducible refine Row5.alloc ?_ _) | (with_reducible refine Row5.drew ?_)))
  have R5 : Row5 w5 (w.heap.size + 1) (.bool false) (.int .u64 0) (.int .u64 0) (.int .u64 0) (.int .u64 0) := Row5.keep hb (by repeat (first | (with_reducible exact R4) | (with_reducible refine Row5.alloc ?_ _) | (with_reducible refine Row5.drew ?_)))
  clear X4 R4
  clear BW4
  clear hb
  go_upto_region 12 with (fail)
  go_name_world w6 hw6
  have BW6 : Below w.heap.size w w6 := by rw [← hw6]; repeat (first | (with_reducible exact BW5) | (with_reducible refine bal ?_ _) | (with_reducible refine Below.drew ?_) | (with_reducible refine bdn ?_ _))
  have hbX : Below w5.heap.size w5 w6 := by rw [← hw6]; repeat (first | (with_reducible exact Below.refl _ _) | (with_reducible refine bal ?_ _) | (with_reducible refine Below.drew ?_) | (with_reducible refine bdn ?_ _))
  have DX6 : DR w6 s1 x := DR.keep hbX DX5
  have DQ6 : DR w6 s2 q := DR.keep hbX DQ5
  clear hbX DX5 DQ5
  have X6 : Row5 w6 w.heap.size (.bool true) (.int .u64 (lb 0 x)) (.int .u64 (lb 1 x)) (.int .u64 (lb 2 x)) (.int .u64 (lb 3 x)) := by rw [← hw6]; exact (by repeat (first | (with_reducible exact X5) | (with_reducible refine Row5.alloc ?_ _) | (with_reducible refine Row5.drew ?_)))
  have R6 : Row5 w6 (w.heap.size + 1) (.bool false) (.int .u64 0) (.int .u64 0) (.int .u64 0) (.int .u64 0) := by rw [← hw6]; exact (by repeat (first | (with_reducible exact R5) | (with_reducible refine Row5.alloc ?_ _) | (with_reducible refine Row5.drew ?_)))
  clear X5 R5
  clear BW5
  clear hw6
  have lt_X := X6.lt
  have lt_R := R6.lt
  go_region_held3 (fun w' => w'.cell? ⟨w.heap.size, 0, none⟩ = some (.bool true) ∧ w'.cell? ⟨w.heap.size, 1, none⟩ = some (.int .u64 (lb 0 x)) ∧ w'.cell? ⟨w.heap.size, 2, none⟩ = some (.int .u64 (lb 1 x)) ∧ w'.cell? ⟨w.heap.size, 3, none⟩ = some (.int .u64 (lb 2 x)) ∧ w'.cell? ⟨w.heap.size, 4, none⟩ = some (.int .u64 (lb 3 x)))
    ((refine Row5.parts ?_; (repeat (first | (with_reducible assumption) | (with_reducible refine Row5.alloc ?_ _) | (with_reducible refine Row5.drew ?_) | (with_reducible refine Row5.drewN ?_ _) | ((with_reducible refine Row5.set ?_ ?_ _); rotate_left; (focus (omega))))); done))
    (first | (go_at_call 13; (with_reducible refine (K5.out _ _ (DR.keep (by repeat (first | (with_reducible exact Below.refl _ _) | (with_reducible refine bal ?_ _) | (with_reducible refine Below.drew ?_) | (with_reducible refine bdn ?_ _))) DQ6)).mono ?_); rintro e wa ⟨sa, rfl, hra, hba⟩; have ba : Below w.heap.size w wa := btr (by repeat (first | (with_reducible exact BW6) | (with_reducible refine bal ?_ _) | (with_reducible refine Below.drew ?_) | (with_reducible refine bdn ?_ _))) hba; have Xa : Row5 wa w.heap.size (.bool true) (.int .u64 (lb 0 x)) (.int .u64 (lb 1 x)) (.int .u64 (lb 2 x)) (.int .u64 (lb 3 x)) := Row5.keep hba (by repeat (first | (with_reducible exact X6) | (with_reducible refine Row5.alloc ?_ _) | (with_reducible refine Row5.drew ?_) | (with_reducible refine Row5.drewN ?_ _))); have Ra : Row5 wa (w.heap.size + 1) (.bool false) (.int .u64 0) (.int .u64 0) (.int .u64 0) (.int .u64 0) := Row5.keep hba (by repeat (first | (with_reducible exact R6) | (with_reducible refine Row5.alloc ?_ _) | (with_reducible refine Row5.drew ?_) | (with_reducible refine Row5.drewN ?_ _))); obtain ⟨xa0, xa1, xa2, xa3, xa4⟩ := Xa.parts) | (go_at_call 85; (with_reducible refine (KW.out _ _ (DR.keep (by repeat (first | (with_reducible exact Below.refl _ _) | (with_reducible refine bal ?_ _) | (with_reducible refine Below.drew ?_) | (with_reducible refine bdn ?_ _))) hra)).mono ?_); rintro e wb ⟨rfl, hbb⟩; have bb : Below w.heap.size w wb := btr (by repeat (first | (with_reducible exact ba) | (with_reducible refine bal ?_ _) | (with_reducible refine Below.drew ?_) | (with_reducible refine bdn ?_ _))) hbb; have Rb : Row5 wb (w.heap.size + 1) (.bool false) (.int .u64 0) (.int .u64 0) (.int .u64 0) (.int .u64 0) := Row5.keep hbb (by repeat (first | (with_reducible exact Ra) | (with_reducible refine Row5.alloc ?_ _) | (with_reducible refine Row5.drew ?_) | (with_reducible refine Row5.drewN ?_ _))); have Xb : Row5 wb w.heap.size (.bool true) (.int .u64 (lb 0 x)) (.int .u64 (lb 1 x)) (.int .u64 (lb 2 x)) (.int .u64 (lb 3 x)) := Row5.keep hbb (by repeat (first | (with_reducible exact Xa) | (with_reducible refine Row5.alloc ?_ _) | (with_reducible refine Row5.drew ?_) | (with_reducible refine Row5.drewN ?_ _))); obtain ⟨rb0, rb1, rb2, rb3, rb4⟩ := Rb.parts; obtain ⟨rg0, rg1, rg2, rg3, rg4⟩ := Rb.free; have ltb := Rb.lt; have ltc := Xb.lt; have nbx : ¬ w.heap.size + 1 = w.heap.size := by omega))
  all_goals
    go_wp2
    exact bodyPost_ret (v := .tuple #[.agg #[.bool h, .int .u64 y0, .int .u64 y1, .int .u64 y2, .int .u64 y3], .bool b]) (by simp [results, Tryd.results49, go_sem, rb0, rb1, rb2, rb3, rb4]) rfl ⟨rfl, by repeat (first | (with_reducible exact bb) | (with_reducible refine bal ?_ _) | (with_reducible refine Below.drew ?_) | (with_reducible refine bdn ?_ _) | ((with_reducible refine bsc ?_ ?_ _); rotate_left; (focus (simp only []; omega))))⟩
set_option maxHeartbeats 4000000 in
set_option maxRecDepth 100000 in
theorem rnear_least_true (x : Nat) (hx : x < 2 ^ 256) (h : Bool) (y0 y1 y2 y3 : Int) (b : Bool) (L : Nat) (hL : (L : Int) ≤ 53) (w : World)
    (k1 : ∀ W, Calls Tryd.prog 29 #[I5 true x] W fun e w' => e = .returned (.bool true) ∧ Below W.heap.size W w')
    (k2 : ∀ W, Calls Tryd.prog 54 #[I5 true x] W fun e w' => e = .returned (.bool true) ∧ Below W.heap.size W w')
    (k3 : ∀ s' W, DR W s' x → Calls Tryd.prog 12 #[s'] W fun e w' => e = .returned (.int .i64 (L : Int)) ∧ Below W.heap.size W w')
    (kw : ∀ s' W, DR W s' 9007199254740993 → Calls Tryd.prog 85 #[.bool true, s'] W fun e w' => e = .returned (.tuple #[.agg #[.bool h, .int .u64 y0, .int .u64 y1, .int .u64 y2, .int .u64 y3], .bool b]) ∧ Below W.heap.size W w') :
    Calls Tryd.prog 49 #[I5 true x, .bool false, .bool false] w fun e w' => e = .returned (.tuple #[.agg #[.bool h, .int .u64 y0, .int .u64 y1, .int .u64 y2, .int .u64 y3], .bool b]) ∧ Below w.heap.size w w' := by
  unfold I5 at *
  have HX := Lib.hid hx; have K1 := Lib.hid k1; have K2 := Lib.hid k2; have K3 := Lib.hid k3; have KW := Lib.hid kw; clear hx k1 k2 k3 kw
  have L1 := Lib.hid (digs_eight HX.out); have L2 := Lib.hid (digs_eight (show 1 < 2 ^ 256 by decide)); have L3 := Lib.hid (digs_eight (show 2 ^ 53 < 2 ^ 256 by decide))
  go_enter Tryd.func49, Tryd.ntmps49
  go_wp2_with fail
  refine (K1.out _).mono ?_
  rintro e w1 ⟨rfl, hb⟩
  have BW1 : Below w.heap.size w w1 := btr (by repeat (first | (with_reducible exact Below.refl _ _) | (with_reducible refine bal ?_ _) | (with_reducible refine Below.drew ?_) | (with_reducible refine bdn ?_ _))) hb
  have X1 : Row5 w1 w.heap.size (.bool true) (.int .u64 (lb 0 x)) (.int .u64 (lb 1 x)) (.int .u64 (lb 2 x)) (.int .u64 (lb 3 x)) := Row5.keep hb (by repeat (first | (with_reducible exact Row5.new _ _ _ _ _ _) | ((with_reducible refine Row5.new' _ ?_ _ _ _ _ _); (simp; done)) | (with_reducible refine Row5.alloc ?_ _) | (with_reducible refine Row5.drew ?_)))
  have R1 : Row5 w1 (w.heap.size + 1) (.bool false) (.int .u64 0) (.int .u64 0) (.int .u64 0) (.int .u64 0) := Row5.keep hb (by repeat (first | (with_reducible exact Row5.new _ _ _ _ _ _) | ((with_reducible refine Row5.new' _ ?_ _ _ _ _ _); (simp; done)) | (with_reducible refine Row5.alloc ?_ _) | (with_reducible refine Row5.drew ?_)))
  clear hb
  obtain ⟨Xc0, Xc1, Xc2, Xc3, Xc4⟩ := X1.parts
  obtain ⟨Xf0, Xf1, Xf2, Xf3, Xf4⟩ := X1.free
  go_wp2_with fail
  refine (K2.out _).mono ?_
  rintro e w2 ⟨rfl, hb⟩
  have BW2 : Below w.heap.size w w2 := btr (by repeat (first | (with_reducible exact BW1) | (with_reducible refine bal ?_ _) | (with_reducible refine Below.drew ?_) | (with_reducible refine bdn ?_ _))) hb
  have X2 : Row5 w2 w.heap.size (.bool true) (.int .u64 (lb 0 x)) (.int .u64 (lb 1 x)) (.int .u64 (lb 2 x)) (.int .u64 (lb 3 x)) := Row5.keep hb (by repeat (first | (with_reducible exact X1) | (with_reducible refine Row5.alloc ?_ _) | (with_reducible refine Row5.drew ?_)))
  have R2 : Row5 w2 (w.heap.size + 1) (.bool false) (.int .u64 0) (.int .u64 0) (.int .u64 0) (.int .u64 0) := Row5.keep hb (by repeat (first | (with_reducible exact R1) | (with_reducible refine Row5.alloc ?_ _) | (with_reducible refine Row5.drew ?_)))
  clear X1 R1
  clear BW1
  clear hb
  obtain ⟨Xc0, Xc1, Xc2, Xc3, Xc4⟩ := X2.parts
  obtain ⟨Xf0, Xf1, Xf2, Xf3, Xf4⟩ := X2.free
  go_wp2_with fail
  refine (rof x HX.out _).mono ?_
  rintro e w3 ⟨s1, rfl, hr, hb⟩
  have hbX : Below w2.heap.size w2 w3 := btr (by repeat (first | (with_reducible exact Below.refl _ _) | (with_reducible refine bal ?_ _) | (with_reducible refine Below.drew ?_) | (with_reducible refine bdn ?_ _))) hb
  clear hbX
  have DX3 : DR w3 s1 x := hr
  clear hr
  have BW3 : Below w.heap.size w w3 := btr (by repeat (first | (with_reducible exact BW2) | (with_reducible refine bal ?_ _) | (with_reducible refine Below.drew ?_) | (with_reducible refine bdn ?_ _))) hb
  have X3 : Row5 w3 w.heap.size (.bool true) (.int .u64 (lb 0 x)) (.int .u64 (lb 1 x)) (.int .u64 (lb 2 x)) (.int .u64 (lb 3 x)) := Row5.keep hb (by repeat (first | (with_reducible exact X2) | (with_reducible refine Row5.alloc ?_ _) | (with_reducible refine Row5.drew ?_)))
  have R3 : Row5 w3 (w.heap.size + 1) (.bool false) (.int .u64 0) (.int .u64 0) (.int .u64 0) (.int .u64 0) := Row5.keep hb (by repeat (first | (with_reducible exact R2) | (with_reducible refine Row5.alloc ?_ _) | (with_reducible refine Row5.drew ?_)))
  clear X2 R2
  clear BW2
  clear hb
  obtain ⟨Xc0, Xc1, Xc2, Xc3, Xc4⟩ := X3.parts
  obtain ⟨Xf0, Xf1, Xf2, Xf3, Xf4⟩ := X3.free
  go_wp2_with fail
  refine ((rpow_53 _)).mono ?_
  rintro e w4 ⟨s2, rfl, hr, hb⟩
  have hbX : Below w3.heap.size w3 w4 := btr (by repeat (first | (with_reducible exact Below.refl _ _) | (with_reducible refine bal ?_ _) | (with_reducible refine Below.drew ?_) | (with_reducible refine bdn ?_ _))) hb
  have DX4 : DR w4 s1 x := DR.keep hbX DX3
  clear DX3
  clear hbX
  have DP4 : DR w4 s2 (2 ^ 53) := hr
  clear hr
  have BW4 : Below w.heap.size w w4 := btr (by repeat (first | (with_reducible exact BW3) | (with_reducible refine bal ?_ _) | (with_reducible refine Below.drew ?_) | (with_reducible refine bdn ?_ _))) hb
  have X4 : Row5 w4 w.heap.size (.bool true) (.int .u64 (lb 0 x)) (.int .u64 (lb 1 x)) (.int .u64 (lb 2 x)) (.int .u64 (lb 3 x)) := Row5.keep hb (by repeat (first | (with_reducible exact X3) | (with_reducible refine Row5.alloc ?_ _) | (with_reducible refine Row5.drew ?_)))
  have R4 : Row5 w4 (w.heap.size + 1) (.bool false) (.int .u64 0) (.int .u64 0) (.int .u64 0) (.int .u64 0) := Row5.keep hb (by repeat (first | (with_reducible exact R3) | (with_reducible refine Row5.alloc ?_ _) | (with_reducible refine Row5.drew ?_)))
  clear X3 R3
  clear BW3
  clear hb
  go_wp2_with fail
  refine (radd_least (DR.keep (by repeat (first | (with_reducible exact Below.refl _ _) | (with_reducible refine bal ?_ _) | (with_reducible refine Below.drew ?_) | (with_reducible refine bdn ?_ _))) DP4) (DR.keep (by repeat (first | (with_reducible exact Below.refl _ _) | (with_reducible refine bal ?_ _) | (with_reducible refine Below.drew ?_) | (with_reducible refine bdn ?_ _))) (ten_new w4 1 (by decide) (by decide) 1 rfl)) L3.out L2.out).mono ?_
  rintro e w5 ⟨s3, rfl, hr, hb⟩
  have hbX : Below w4.heap.size w4 w5 := btr (by repeat (first | (with_reducible exact Below.refl _ _) | (with_reducible refine bal ?_ _) | (with_reducible refine Below.drew ?_) | (with_reducible refine bdn ?_ _))) hb
  have DX5 : DR w5 s1 x := DR.keep hbX DX4
  have DP5 : DR w5 s2 (2 ^ 53) := DR.keep hbX DP4
  clear DX4 DP4
  clear hbX
  have DL5 : DR w5 s3 9007199254740993 := hr
  clear hr
  have BW5 : Below w.heap.size w w5 := btr (by repeat (first | (with_reducible exact BW4) | (with_reducible refine bal ?_ _) | (with_reducible refine Below.drew ?_) | (with_reducible refine bdn ?_ _))) hb
  have X5 : Row5 w5 w.heap.size (.bool true) (.int .u64 (lb 0 x)) (.int .u64 (lb 1 x)) (.int .u64 (lb 2 x)) (.int .u64 (lb 3 x)) := Row5.keep hb (by repeat (first | (with_reducible exact X4) | (with_reducible refine Row5.alloc ?_ _) | (with_reducible refine Row5.drew ?_)))
  have R5 : Row5 w5 (w.heap.size + 1) (.bool false) (.int .u64 0) (.int .u64 0) (.int .u64 0) (.int .u64 0) := Row5.keep hb (by repeat (first | (with_reducible exact R4) | (with_reducible refine Row5.alloc ?_ _) | (with_reducible refine Row5.drew ?_)))
  clear X4 R4
  clear BW4
  clear hb
  go_wp2_with fail
  refine (K3.out _ _ (DR.keep (by repeat (first | (with_reducible exact Below.refl _ _) | (with_reducible refine bal ?_ _) | (with_reducible refine Below.drew ?_) | (with_reducible refine bdn ?_ _))) DX5)).mono ?_
  rintro e w6 ⟨rfl, hb⟩
  have hbX : Below w5.heap.size w5 w6 := btr (by repeat (first | (with_reducible exact Below.refl _ _) | (with_reducible refine bal ?_ _) | (with_reducible refine Below.drew ?_) | (with_reducible refine bdn ?_ _))) hb
  have DX6 : DR w6 s1 x := DR.keep hbX DX5
  have DP6 : DR w6 s2 (2 ^ 53) := DR.keep hbX DP5
  have DL6 : DR w6 s3 9007199254740993 := DR.keep hbX DL5
  clear DX5 DP5 DL5
  clear hbX
  have BW6 : Below w.heap.size w w6 := btr (by repeat (first | (with_reducible exact BW5) | (with_reducible refine bal ?_ _) | (with_reducible refine Below.drew ?_) | (with_reducible refine bdn ?_ _))) hb
  have X6 : Row5 w6 w.heap.size (.bool true) (.int .u64 (lb 0 x)) (.int .u64 (lb 1 x)) (.int .u64 (lb 2 x)) (.int .u64 (lb 3 x)) := Row5.keep hb (by repeat (first | (with_reducible exact X5) | (with_reducible refine Row5.alloc ?_ _) | (with_reducible refine Row5.drew ?_)))
  have R6 : Row5 w6 (w.heap.size + 1) (.bool false) (.int .u64 0) (.int .u64 0) (.int .u64 0) (.int .u64 0) := Row5.keep hb (by repeat (first | (with_reducible exact R5) | (with_reducible refine Row5.alloc ?_ _) | (with_reducible refine Row5.drew ?_)))
  clear X5 R5
  clear BW5
  clear hb
  obtain ⟨Xc0, Xc1, Xc2, Xc3, Xc4⟩ := X6.parts
  obtain ⟨Xf0, Xf1, Xf2, Xf3, Xf4⟩ := X6.free
  go_wp2_with fail
  refine (KW.out _ _ (DR.keep (by repeat (first | (with_reducible exact Below.refl _ _) | (with_reducible refine bal ?_ _) | (with_reducible refine Below.drew ?_) | (with_reducible refine bdn ?_ _))) DL6)).mono ?_
  rintro e w7 ⟨rfl, hb⟩
  have hbX : Below w6.heap.size w6 w7 := btr (by repeat (first | (with_reducible exact Below.refl _ _) | (with_reducible refine bal ?_ _) | (with_reducible refine Below.drew ?_) | (with_reducible refine bdn ?_ _))) hb
  have DX7 : DR w7 s1 x := DR.keep hbX DX6
  have DP7 : DR w7 s2 (2 ^ 53) := DR.keep hbX DP6
  have DL7 : DR w7 s3 9007199254740993 := DR.keep hbX DL6
  clear DX6 DP6 DL6
  clear hbX
  have BW7 : Below w.heap.size w w7 := btr (by repeat (first | (with_reducible exact BW6) | (with_reducible refine bal ?_ _) | (with_reducible refine Below.drew ?_) | (with_reducible refine bdn ?_ _))) hb
  have X7 : Row5 w7 w.heap.size (.bool true) (.int .u64 (lb 0 x)) (.int .u64 (lb 1 x)) (.int .u64 (lb 2 x)) (.int .u64 (lb 3 x)) := Row5.keep hb (by repeat (first | (with_reducible exact X6) | (with_reducible refine Row5.alloc ?_ _) | (with_reducible refine Row5.drew ?_)))
  have R7 : Row5 w7 (w.heap.size + 1) (.bool false) (.int .u64 0) (.int .u64 0) (.int .u64 0) (.int .u64 0) := Row5.keep hb (by repeat (first | (with_reducible exact R6) | (with_reducible refine Row5.alloc ?_ _) | (with_reducible refine Row5.drew ?_)))
  clear X6 R6
  clear BW6
  clear hb
  obtain ⟨Rc0, Rc1, Rc2, Rc3, Rc4⟩ := R7.parts
  obtain ⟨Rf0, Rf1, Rf2, Rf3, Rf4⟩ := R7.free
  have lt_R := R7.lt
  go_wp2
  exact bodyPost_ret (v := .tuple #[.agg #[.bool h, .int .u64 y0, .int .u64 y1, .int .u64 y2, .int .u64 y3], .bool b]) (by simp [results, Tryd.results49, go_sem, Rc0, Rc1, Rc2, Rc3, Rc4]) rfl ⟨rfl, by repeat (first | (with_reducible exact BW7) | (with_reducible refine bal ?_ _) | (with_reducible refine Below.drew ?_) | (with_reducible refine bdn ?_ _) | ((with_reducible refine bsc ?_ ?_ _); rotate_left; (focus (simp only []; omega))))⟩
set_option maxHeartbeats 4000000 in
set_option maxRecDepth 100000 in
theorem rnear_grow_true (x : Nat) (hx : x < 2 ^ 256) (h : Bool) (y0 y1 y2 y3 : Int) (b : Bool) (L : Nat) (hL : 53 < (L : Int)) (w : World)
    (k1 : ∀ W, Calls Tryd.prog 29 #[I5 true x] W fun e w' => e = .returned (.bool true) ∧ Below W.heap.size W w')
    (k2 : ∀ W, Calls Tryd.prog 54 #[I5 true x] W fun e w' => e = .returned (.bool true) ∧ Below W.heap.size W w')
    (k3 : ∀ s' W, DR W s' x → Calls Tryd.prog 12 #[s'] W fun e w' => e = .returned (.int .i64 (L : Int)) ∧ Below W.heap.size W w')
    (kw : ∀ s' W, DR W s' (x + 1) → Calls Tryd.prog 85 #[.bool true, s'] W fun e w' => e = .returned (.tuple #[.agg #[.bool h, .int .u64 y0, .int .u64 y1, .int .u64 y2, .int .u64 y3], .bool b]) ∧ Below W.heap.size W w')
    (ko : ∀ W, Calls Tryd.prog 92 #[.agg #[.bool h, .int .u64 y0, .int .u64 y1, .int .u64 y2, .int .u64 y3], .bool b, .bool false] W fun e w' => e = .returned (.tuple #[.agg #[.bool h, .int .u64 y0, .int .u64 y1, .int .u64 y2, .int .u64 y3], .bool b]) ∧ Below W.heap.size W w') :
    Calls Tryd.prog 49 #[I5 true x, .bool false, .bool false] w fun e w' => e = .returned (.tuple #[.agg #[.bool h, .int .u64 y0, .int .u64 y1, .int .u64 y2, .int .u64 y3], .bool b]) ∧ Below w.heap.size w w' := by
  unfold I5 at *
  have HX := Lib.hid hx; have K1 := Lib.hid k1; have K2 := Lib.hid k2; have K3 := Lib.hid k3; have KW := Lib.hid kw; have KO := Lib.hid ko; clear hx k1 k2 k3 kw ko
  have L1 := Lib.hid (digs_eight HX.out); have L2 := Lib.hid (digs_eight (show 1 < 2 ^ 256 by decide)); have L3 := Lib.hid (digs_eight (show 2 ^ 53 < 2 ^ 256 by decide))
  go_enter Tryd.func49, Tryd.ntmps49
  go_wp2_with fail
  refine (K1.out _).mono ?_
  rintro e w1 ⟨rfl, hb⟩
  have BW1 : Below w.heap.size w w1 := btr (by repeat (first | (with_reducible exact Below.refl _ _) | (with_reducible refine bal ?_ _) | (with_reducible refine Below.drew ?_) | (with_reducible refine bdn ?_ _))) hb
  have X1 : Row5 w1 w.heap.size (.bool true) (.int .u64 (lb 0 x)) (.int .u64 (lb 1 x)) (.int .u64 (lb 2 x)) (.int .u64 (lb 3 x)) := Row5.keep hb (by repeat (first | (with_reducible exact Row5.new _ _ _ _ _ _) | ((with_reducible refine Row5.new' _ ?_ _ _ _ _ _); (simp; done)) | (with_reducible refine Row5.alloc ?_ _) | (with_reducible refine Row5.drew ?_)))
  have R1 : Row5 w1 (w.heap.size + 1) (.bool false) (.int .u64 0) (.int .u64 0) (.int .u64 0) (.int .u64 0) := Row5.keep hb (by repeat (first | (with_reducible exact Row5.new _ _ _ _ _ _) | ((with_reducible refine Row5.new' _ ?_ _ _ _ _ _); (simp; done)) | (with_reducible refine Row5.alloc ?_ _) | (with_reducible refine Row5.drew ?_)))
  clear hb
  obtain ⟨Xc0, Xc1, Xc2, Xc3, Xc4⟩ := X1.parts
  obtain ⟨Xf0, Xf1, Xf2, Xf3, Xf4⟩ := X1.free
  go_wp2_with fail
  refine (K2.out _).mono ?_
  rintro e w2 ⟨rfl, hb⟩
  have BW2 : Below w.heap.size w w2 := btr (by repeat (first | (with_reducible exact BW1) | (with_reducible refine bal ?_ _) | (with_reducible refine Below.drew ?_) | (with_reducible refine bdn ?_ _))) hb
  have X2 : Row5 w2 w.heap.size (.bool true) (.int .u64 (lb 0 x)) (.int .u64 (lb 1 x)) (.int .u64 (lb 2 x)) (.int .u64 (lb 3 x)) := Row5.keep hb (by repeat (first | (with_reducible exact X1) | (with_reducible refine Row5.alloc ?_ _) | (with_reducible refine Row5.drew ?_)))
  have R2 : Row5 w2 (w.heap.size + 1) (.bool false) (.int .u64 0) (.int .u64 0) (.int .u64 0) (.int .u64 0) := Row5.keep hb (by repeat (first | (with_reducible exact R1) | (with_reducible refine Row5.alloc ?_ _) | (with_reducible refine Row5.drew ?_)))
  clear X1 R1
  clear BW1
  clear hb
  obtain ⟨Xc0, Xc1, Xc2, Xc3, Xc4⟩ := X2.parts
  obtain ⟨Xf0, Xf1, Xf2, Xf3, Xf4⟩ := X2.free
  go_wp2_with fail
  refine (rof x HX.out _).mono ?_
  rintro e w3 ⟨s1, rfl, hr, hb⟩
  have hbX : Below w2.heap.size w2 w3 := btr (by repeat (first | (with_reducible exact Below.refl _ _) | (with_reducible refine bal ?_ _) | (with_reducible refine Below.drew ?_) | (with_reducible refine bdn ?_ _))) hb
  clear hbX
  have DX3 : DR w3 s1 x := hr
  clear hr
  have BW3 : Below w.heap.size w w3 := btr (by repeat (first | (with_reducible exact BW2) | (with_reducible refine bal ?_ _) | (with_reducible refine Below.drew ?_) | (with_reducible refine bdn ?_ _))) hb
  have X3 : Row5 w3 w.heap.size (.bool true) (.int .u64 (lb 0 x)) (.int .u64 (lb 1 x)) (.int .u64 (lb 2 x)) (.int .u64 (lb 3 x)) := Row5.keep hb (by repeat (first | (with_reducible exact X2) | (with_reducible refine Row5.alloc ?_ _) | (with_reducible refine Row5.drew ?_)))
  have R3 : Row5 w3 (w.heap.size + 1) (.bool false) (.int .u64 0) (.int .u64 0) (.int .u64 0) (.int .u64 0) := Row5.keep hb (by repeat (first | (with_reducible exact R2) | (with_reducible refine Row5.alloc ?_ _) | (with_reducible refine Row5.drew ?_)))
  clear X2 R2
  clear BW2
  clear hb
  obtain ⟨Xc0, Xc1, Xc2, Xc3, Xc4⟩ := X3.parts
  obtain ⟨Xf0, Xf1, Xf2, Xf3, Xf4⟩ := X3.free
  go_wp2_with fail
  refine ((rpow_53 _)).mono ?_
  rintro e w4 ⟨s2, rfl, hr, hb⟩
  have hbX : Below w3.heap.size w3 w4 := btr (by repeat (first | (with_reducible exact Below.refl _ _) | (with_reducible refine bal ?_ _) | (with_reducible refine Below.drew ?_) | (with_reducible refine bdn ?_ _))) hb
  have DX4 : DR w4 s1 x := DR.keep hbX DX3
  clear DX3
  clear hbX
  have DP4 : DR w4 s2 (2 ^ 53) := hr
  clear hr
  have BW4 : Below w.heap.size w w4 := btr (by repeat (first | (with_reducible exact BW3) | (with_reducible refine bal ?_ _) | (with_reducible refine Below.drew ?_) | (with_reducible refine bdn ?_ _))) hb
  have X4 : Row5 w4 w.heap.size (.bool true) (.int .u64 (lb 0 x)) (.int .u64 (lb 1 x)) (.int .u64 (lb 2 x)) (.int .u64 (lb 3 x)) := Row5.keep hb (by repeat (first | (with_reducible exact X3) | (with_reducible refine Row5.alloc ?_ _) | (with_reducible refine Row5.drew ?_)))
  have R4 : Row5 w4 (w.heap.size + 1) (.bool false) (.int .u64 0) (.int .u64 0) (.int .u64 0) (.int .u64 0) := Row5.keep hb (by repeat (first | (with_reducible exact R3) | (with_reducible refine Row5.alloc ?_ _) | (with_reducible refine Row5.drew ?_)))
  clear X3 R3
  clear BW3
  clear hb
  go_wp2_with fail
  refine (radd_least (DR.keep (by repeat (first | (with_reducible exact Below.refl _ _) | (with_reducible refine bal ?_ _) | (with_reducible refine Below.drew ?_) | (with_reducible refine bdn ?_ _))) DP4) (DR.keep (by repeat (first | (with_reducible exact Below.refl _ _) | (with_reducible refine bal ?_ _) | (with_reducible refine Below.drew ?_) | (with_reducible refine bdn ?_ _))) (ten_new w4 1 (by decide) (by decide) 1 rfl)) L3.out L2.out).mono ?_
  rintro e w5 ⟨s3, rfl, hr, hb⟩
  have hbX : Below w4.heap.size w4 w5 := btr (by repeat (first | (with_reducible exact Below.refl _ _) | (with_reducible refine bal ?_ _) | (with_reducible refine Below.drew ?_) | (with_reducible refine bdn ?_ _))) hb
  have DX5 : DR w5 s1 x := DR.keep hbX DX4
  have DP5 : DR w5 s2 (2 ^ 53) := DR.keep hbX DP4
  clear DX4 DP4
  clear hbX
  have DL5 : DR w5 s3 9007199254740993 := hr
  clear hr
  have BW5 : Below w.heap.size w w5 := btr (by repeat (first | (with_reducible exact BW4) | (with_reducible refine bal ?_ _) | (with_reducible refine Below.drew ?_) | (with_reducible refine bdn ?_ _))) hb
  have X5 : Row5 w5 w.heap.size (.bool true) (.int .u64 (lb 0 x)) (.int .u64 (lb 1 x)) (.int .u64 (lb 2 x)) (.int .u64 (lb 3 x)) := Row5.keep hb (by repeat (first | (with_reducible exact X4) | (with_reducible refine Row5.alloc ?_ _) | (with_reducible refine Row5.drew ?_)))
  have R5 : Row5 w5 (w.heap.size + 1) (.bool false) (.int .u64 0) (.int .u64 0) (.int .u64 0) (.int .u64 0) := Row5.keep hb (by repeat (first | (with_reducible exact R4) | (with_reducible refine Row5.alloc ?_ _) | (with_reducible refine Row5.drew ?_)))
  clear X4 R4
  clear BW4
  clear hb
  go_wp2_with fail
  refine (K3.out _ _ (DR.keep (by repeat (first | (with_reducible exact Below.refl _ _) | (with_reducible refine bal ?_ _) | (with_reducible refine Below.drew ?_) | (with_reducible refine bdn ?_ _))) DX5)).mono ?_
  rintro e w6 ⟨rfl, hb⟩
  have hbX : Below w5.heap.size w5 w6 := btr (by repeat (first | (with_reducible exact Below.refl _ _) | (with_reducible refine bal ?_ _) | (with_reducible refine Below.drew ?_) | (with_reducible refine bdn ?_ _))) hb
  have DX6 : DR w6 s1 x := DR.keep hbX DX5
  have DP6 : DR w6 s2 (2 ^ 53) := DR.keep hbX DP5
  have DL6 : DR w6 s3 9007199254740993 := DR.keep hbX DL5
  clear DX5 DP5 DL5
  clear hbX
  have BW6 : Below w.heap.size w w6 := btr (by repeat (first | (with_reducible exact BW5) | (with_reducible refine bal ?_ _) | (with_reducible refine Below.drew ?_) | (with_reducible refine bdn ?_ _))) hb
  have X6 : Row5 w6 w.heap.size (.bool true) (.int .u64 (lb 0 x)) (.int .u64 (lb 1 x)) (.int .u64 (lb 2 x)) (.int .u64 (lb 3 x)) := Row5.keep hb (by repeat (first | (with_reducible exact X5) | (with_reducible refine Row5.alloc ?_ _) | (with_reducible refine Row5.drew ?_)))
  have R6 : Row5 w6 (w.heap.size + 1) (.bool false) (.int .u64 0) (.int .u64 0) (.int .u64 0) (.int .u64 0) := Row5.keep hb (by repeat (first | (with_reducible exact R5) | (with_reducible refine Row5.alloc ?_ _) | (with_reducible refine Row5.drew ?_)))
  clear X5 R5
  clear BW5
  clear hb
  obtain ⟨Xc0, Xc1, Xc2, Xc3, Xc4⟩ := X6.parts
  obtain ⟨Xf0, Xf1, Xf2, Xf3, Xf4⟩ := X6.free
  go_upto_region 17 with (fail)
  go_name_world w7 hw7
  have BW7 : Below w.heap.size w w7 := by rw [← hw7]; repeat (first | (with_reducible exact BW6) | (with_reducible refine bal ?_ _) | (with_reducible refine Below.drew ?_) | (with_reducible refine bdn ?_ _))
  have hbX : Below w6.heap.size w6 w7 := by rw [← hw7]; repeat (first | (with_reducible exact Below.refl _ _) | (with_reducible refine bal ?_ _) | (with_reducible refine Below.drew ?_) | (with_reducible refine bdn ?_ _))
  have DX7 : DR w7 s1 x := DR.keep hbX DX6
  have DP7 : DR w7 s2 (2 ^ 53) := DR.keep hbX DP6
  have DL7 : DR w7 s3 9007199254740993 := DR.keep hbX DL6
  clear hbX DX6 DP6 DL6
  have X7 : Row5 w7 w.heap.size (.bool true) (.int .u64 (lb 0 x)) (.int .u64 (lb 1 x)) (.int .u64 (lb 2 x)) (.int .u64 (lb 3 x)) := by rw [← hw7]; exact (by repeat (first | (with_reducible exact X6) | (with_reducible refine Row5.alloc ?_ _) | (with_reducible refine Row5.drew ?_)))
  have R7 : Row5 w7 (w.heap.size + 1) (.bool false) (.int .u64 0) (.int .u64 0) (.int .u64 0) (.int .u64 0) := by rw [← hw7]; exact (by repeat (first | (with_reducible exact R6) | (with_reducible refine Row5.alloc ?_ _) | (with_reducible refine Row5.drew ?_)))
  clear X6 R6
  clear BW6
  clear hw7
  have lt_X := X7.lt
  have lt_R := R7.lt
  go_cut [13, 14] (fun s13 s14 wx => ∃ p : Nat, s13 = .pointer (some ⟨p, 0, none⟩) ∧ s14 = .bool b ∧ Row5 wx p (.bool h) (.int .u64 y0) (.int .u64 y1) (.int .u64 y2) (.int .u64 y3) ∧ w7.heap.size ≤ p ∧ Below w7.heap.size w7 wx)
  case first =>
    go_region_held3 (fun w' => w'.cell? ⟨w.heap.size, 0, none⟩ = some (.bool true) ∧ w'.cell? ⟨w.heap.size, 1, none⟩ = some (.int .u64 (lb 0 x)) ∧ w'.cell? ⟨w.heap.size, 2, none⟩ = some (.int .u64 (lb 1 x)) ∧ w'.cell? ⟨w.heap.size, 3, none⟩ = some (.int .u64 (lb 2 x)) ∧ w'.cell? ⟨w.heap.size, 4, none⟩ = some (.int .u64 (lb 3 x)))
      ((refine Row5.parts ?_; (repeat (first | (with_reducible assumption) | (with_reducible refine Row5.alloc ?_ _) | (with_reducible refine Row5.drew ?_) | ((with_reducible refine Row5.set ?_ ?_ _); rotate_left; (focus (omega))))); done))
      (first | (go_at_call 86; (with_reducible refine (radd (DR.keep (by repeat (first | (with_reducible exact Below.refl _ _) | (with_reducible refine bal ?_ _) | (with_reducible refine Below.drew ?_) | (with_reducible refine bdn ?_ _))) DX7) (DR.keep (by repeat (first | (with_reducible exact Below.refl _ _) | (with_reducible refine bal ?_ _) | (with_reducible refine Below.drew ?_) | (with_reducible refine bdn ?_ _))) (ten_at _ _ 1 1 (by first | rfl | (simp; done)) (by decide) (by decide) rfl)) L1.out L2.out).mono ?_); rintro e wf1 ⟨sa, rfl, hra, hb1⟩; have Xf1 : Row5 wf1 w.heap.size (.bool true) (.int .u64 (lb 0 x)) (.int .u64 (lb 1 x)) (.int .u64 (lb 2 x)) (.int .u64 (lb 3 x)) := Row5.keep hb1 (by repeat (first | (with_reducible assumption) | (with_reducible refine Row5.alloc ?_ _) | (with_reducible refine Row5.drew ?_))); have ltXf1 := Xf1.lt; (first | (refine absorb (P := Row5 wf1 w7.heap.size (.bool false) (.int .u64 0) (.int .u64 0) (.int .u64 0) (.int .u64 0)) (Row5.keep hb1 ?_) (fun Z1 => ?_); (focus ((repeat (first | ((with_reducible refine Row5.new' _ ?_ _ _ _ _ _); (simp; done)) | (with_reducible refine Row5.alloc ?_ _) | (with_reducible refine Row5.drew ?_))); done))) | (refine absorb (P := Row5 wf1 (w7.heap.size + 1) (.bool false) (.int .u64 0) (.int .u64 0) (.int .u64 0) (.int .u64 0)) (Row5.keep hb1 ?_) (fun Z1 => ?_); (focus ((repeat (first | ((with_reducible refine Row5.new' _ ?_ _ _ _ _ _); (simp; done)) | (with_reducible refine Row5.alloc ?_ _) | (with_reducible refine Row5.drew ?_))); done))) | skip); (first | (obtain ⟨zc0, zc1, zc2, zc3, zc4⟩ := Z1.parts; obtain ⟨zf0, zf1, zf2, zf3, zf4⟩ := Z1.free) | skip)) | (go_at_call 85; (with_reducible refine (KW.out _ _ (DR.keep (by repeat (first | (with_reducible exact Below.refl _ _) | (with_reducible refine bal ?_ _) | (with_reducible refine Below.drew ?_) | (with_reducible refine bdn ?_ _))) hra)).mono ?_); rintro e wf2 ⟨rfl, hb2⟩; have Xf2 : Row5 wf2 w.heap.size (.bool true) (.int .u64 (lb 0 x)) (.int .u64 (lb 1 x)) (.int .u64 (lb 2 x)) (.int .u64 (lb 3 x)) := Row5.keep hb2 (by repeat (first | (with_reducible assumption) | (with_reducible refine Row5.alloc ?_ _) | (with_reducible refine Row5.drew ?_))); have ltXf2 := Xf2.lt; (first | (refine absorb (P := Row5 wf2 w7.heap.size (.bool false) (.int .u64 0) (.int .u64 0) (.int .u64 0) (.int .u64 0)) (Row5.keep hb2 ?_) (fun Z2 => ?_); (focus ((repeat (first | (with_reducible exact Z1) | (with_reducible refine Row5.alloc ?_ _) | (with_reducible refine Row5.drew ?_))); done))) | (refine absorb (P := Row5 wf2 (w7.heap.size + 1) (.bool false) (.int .u64 0) (.int .u64 0) (.int .u64 0) (.int .u64 0)) (Row5.keep hb2 ?_) (fun Z2 => ?_); (focus ((repeat (first | (with_reducible exact Z1) | (with_reducible refine Row5.alloc ?_ _) | (with_reducible refine Row5.drew ?_))); done))) | (refine absorb (P := Row5 wf2 wf1.heap.size (.bool false) (.int .u64 0) (.int .u64 0) (.int .u64 0) (.int .u64 0)) (Row5.keep hb2 ?_) (fun Z2 => ?_); (focus ((repeat (first | ((with_reducible refine Row5.new' _ ?_ _ _ _ _ _); (simp; done)) | (with_reducible refine Row5.alloc ?_ _) | (with_reducible refine Row5.drew ?_))); done))) | skip); (first | (obtain ⟨zc0, zc1, zc2, zc3, zc4⟩ := Z2.parts; obtain ⟨zf0, zf1, zf2, zf3, zf4⟩ := Z2.free) | skip)))
    all_goals
      have BB1 : Below w7.heap.size w7 wf1 := btr (by repeat (first | (with_reducible exact Below.refl _ _) | (with_reducible refine bal ?_ _) | (with_reducible refine Below.drew ?_) | (with_reducible refine bdn ?_ _))) hb1
      have BB2 : Below w7.heap.size w7 wf2 := btr (by repeat (first | (with_reducible exact BB1) | (with_reducible refine bal ?_ _) | (with_reducible refine Below.drew ?_) | (with_reducible refine bdn ?_ _))) hb2
      have hs := BB2.size
      have hs1 := BB1.size
      go_wp2_with fail
      go_meet
      first
        | with_reducible exact ⟨_, rfl, rfl, Row5.new _ _ _ _ _ _, hs, bal BB2 _⟩
        | with_reducible exact ⟨_, rfl, rfl, Row5.set5 Z2 _ _ _ _ _, by omega, bsc5 BB2 (by omega) _ _ _ _ _⟩
        | with_reducible exact ⟨_, rfl, rfl, Row5.set5 Z2 _ _ _ _ _, by omega, bsc5 BB2 (by omega) _ _ _ _ _⟩
  case rest =>
    obtain ⟨pO, rfl, rfl, Oq, hpO, hBO⟩ := hcut
    have hb := hBO
    generalize wc = w8 at *
    have BW8 : Below w.heap.size w w8 := btr BW7 hb
    have X8 : Row5 w8 w.heap.size (.bool true) (.int .u64 (lb 0 x)) (.int .u64 (lb 1 x)) (.int .u64 (lb 2 x)) (.int .u64 (lb 3 x)) := Row5.keep hb X7
    have R8 : Row5 w8 (w.heap.size + 1) (.bool false) (.int .u64 0) (.int .u64 0) (.int .u64 0) (.int .u64 0) := Row5.keep hb R7
    have O8 : Row5 w8 pO (.bool h) (.int .u64 y0) (.int .u64 y1) (.int .u64 y2) (.int .u64 y3) := Oq
    clear X7 R7 BW7 hb hBO Oq
    obtain ⟨Oc0, Oc1, Oc2, Oc3, Oc4⟩ := O8.parts
    obtain ⟨Of0, Of1, Of2, Of3, Of4⟩ := O8.free
    go_wp2_with fail
    refine (KO.out _).mono ?_
    rintro e w9 ⟨rfl, hb⟩
    have BW9 : Below w.heap.size w w9 := btr (by repeat (first | (with_reducible exact BW8) | (with_reducible refine bal ?_ _) | (with_reducible refine Below.drew ?_) | (with_reducible refine bdn ?_ _))) hb
    have X9 : Row5 w9 w.heap.size (.bool true) (.int .u64 (lb 0 x)) (.int .u64 (lb 1 x)) (.int .u64 (lb 2 x)) (.int .u64 (lb 3 x)) := Row5.keep hb (by repeat (first | (with_reducible exact X8) | (with_reducible refine Row5.alloc ?_ _) | (with_reducible refine Row5.drew ?_)))
    have R9 : Row5 w9 (w.heap.size + 1) (.bool false) (.int .u64 0) (.int .u64 0) (.int .u64 0) (.int .u64 0) := Row5.keep hb (by repeat (first | (with_reducible exact R8) | (with_reducible refine Row5.alloc ?_ _) | (with_reducible refine Row5.drew ?_)))
    have O9 : Row5 w9 pO (.bool h) (.int .u64 y0) (.int .u64 y1) (.int .u64 y2) (.int .u64 y3) := Row5.keep hb (by repeat (first | (with_reducible exact O8) | (with_reducible refine Row5.alloc ?_ _) | (with_reducible refine Row5.drew ?_)))
    clear X8 R8 O8
    clear BW8
    clear hb
    obtain ⟨Rc0, Rc1, Rc2, Rc3, Rc4⟩ := R9.parts
    obtain ⟨Rf0, Rf1, Rf2, Rf3, Rf4⟩ := R9.free
    have lt_R := R9.lt
    go_wp2
    exact bodyPost_ret (v := .tuple #[.agg #[.bool h, .int .u64 y0, .int .u64 y1, .int .u64 y2, .int .u64 y3], .bool b]) (by simp [results, Tryd.results49, go_sem, Rc0, Rc1, Rc2, Rc3, Rc4]) rfl ⟨rfl, by repeat (first | (with_reducible exact BW9) | (with_reducible refine bal ?_ _) | (with_reducible refine Below.drew ?_) | (with_reducible refine bdn ?_ _) | ((with_reducible refine bsc ?_ ?_ _); rotate_left; (focus (simp only []; omega))))⟩
set_option maxHeartbeats 4000000 in
set_option maxRecDepth 100000 in
theorem rnear_turn_true (x : Nat) (hx : x < 2 ^ 256) (h : Bool) (y0 y1 y2 y3 : Int) (b : Bool) (c : Int) (hc : rcv x 9007199254740993 = c) (hc0 : c < 0) (w : World)
    (k1 : ∀ W, Calls Tryd.prog 29 #[I5 true x] W fun e w' => e = .returned (.bool true) ∧ Below W.heap.size W w')
    (k2 : ∀ W, Calls Tryd.prog 54 #[I5 true x] W fun e w' => e = .returned (.bool true) ∧ Below W.heap.size W w')
    (kw : ∀ s' W, DR W s' 9007199254740993 → Calls Tryd.prog 85 #[.bool false, s'] W fun e w' => e = .returned (.tuple #[.agg #[.bool h, .int .u64 y0, .int .u64 y1, .int .u64 y2, .int .u64 y3], .bool b]) ∧ Below W.heap.size W w') :
    Calls Tryd.prog 49 #[I5 true x, .bool true, .bool false] w fun e w' => e = .returned (.tuple #[.agg #[.bool h, .int .u64 y0, .int .u64 y1, .int .u64 y2, .int .u64 y3], .bool b]) ∧ Below w.heap.size w w' := by
  unfold I5 at *
  have HX := Lib.hid hx; have K1 := Lib.hid k1; have K2 := Lib.hid k2; have KW := Lib.hid kw; clear hx k1 k2 kw
  have HC := Lib.hid hc; clear hc
  have L1 := Lib.hid (digs_eight HX.out); have L2 := Lib.hid (digs_eight (show 1 < 2 ^ 256 by decide)); have L3 := Lib.hid (digs_eight (show 2 ^ 53 < 2 ^ 256 by decide))
  go_enter Tryd.func49, Tryd.ntmps49
  go_wp2_with fail
  refine (K1.out _).mono ?_
  rintro e w1 ⟨rfl, hb⟩
  have BW1 : Below w.heap.size w w1 := btr (by repeat (first | (with_reducible exact Below.refl _ _) | (with_reducible refine bal ?_ _) | (with_reducible refine Below.drew ?_) | (with_reducible refine bdn ?_ _))) hb
  have X1 : Row5 w1 w.heap.size (.bool true) (.int .u64 (lb 0 x)) (.int .u64 (lb 1 x)) (.int .u64 (lb 2 x)) (.int .u64 (lb 3 x)) := Row5.keep hb (by repeat (first | (with_reducible exact Row5.new _ _ _ _ _ _) | ((with_reducible refine Row5.new' _ ?_ _ _ _ _ _); (simp; done)) | (with_reducible refine Row5.alloc ?_ _) | (with_reducible refine Row5.drew ?_)))
  have R1 : Row5 w1 (w.heap.size + 1) (.bool false) (.int .u64 0) (.int .u64 0) (.int .u64 0) (.int .u64 0) := Row5.keep hb (by repeat (first | (with_reducible exact Row5.new _ _ _ _ _ _) | ((with_reducible refine Row5.new' _ ?_ _ _ _ _ _); (simp; done)) | (with_reducible refine Row5.alloc ?_ _) | (with_reducible refine Row5.drew ?_)))
  clear hb
  obtain ⟨Xc0, Xc1, Xc2, Xc3, Xc4⟩ := X1.parts
  obtain ⟨Xf0, Xf1, Xf2, Xf3, Xf4⟩ := X1.free
  go_wp2_with fail
  refine (K2.out _).mono ?_
  rintro e w2 ⟨rfl, hb⟩
  have BW2 : Below w.heap.size w w2 := btr (by repeat (first | (with_reducible exact BW1) | (with_reducible refine bal ?_ _) | (with_reducible refine Below.drew ?_) | (with_reducible refine bdn ?_ _))) hb
  have X2 : Row5 w2 w.heap.size (.bool true) (.int .u64 (lb 0 x)) (.int .u64 (lb 1 x)) (.int .u64 (lb 2 x)) (.int .u64 (lb 3 x)) := Row5.keep hb (by repeat (first | (with_reducible exact X1) | (with_reducible refine Row5.alloc ?_ _) | (with_reducible refine Row5.drew ?_)))
  have R2 : Row5 w2 (w.heap.size + 1) (.bool false) (.int .u64 0) (.int .u64 0) (.int .u64 0) (.int .u64 0) := Row5.keep hb (by repeat (first | (with_reducible exact R1) | (with_reducible refine Row5.alloc ?_ _) | (with_reducible refine Row5.drew ?_)))
  clear X1 R1
  clear BW1
  clear hb
  obtain ⟨Xc0, Xc1, Xc2, Xc3, Xc4⟩ := X2.parts
  obtain ⟨Xf0, Xf1, Xf2, Xf3, Xf4⟩ := X2.free
  go_wp2_with fail
  refine (rof x HX.out _).mono ?_
  rintro e w3 ⟨s1, rfl, hr, hb⟩
  have hbX : Below w2.heap.size w2 w3 := btr (by repeat (first | (with_reducible exact Below.refl _ _) | (with_reducible refine bal ?_ _) | (with_reducible refine Below.drew ?_) | (with_reducible refine bdn ?_ _))) hb
  clear hbX
  have DX3 : DR w3 s1 x := hr
  clear hr
  have BW3 : Below w.heap.size w w3 := btr (by repeat (first | (with_reducible exact BW2) | (with_reducible refine bal ?_ _) | (with_reducible refine Below.drew ?_) | (with_reducible refine bdn ?_ _))) hb
  have X3 : Row5 w3 w.heap.size (.bool true) (.int .u64 (lb 0 x)) (.int .u64 (lb 1 x)) (.int .u64 (lb 2 x)) (.int .u64 (lb 3 x)) := Row5.keep hb (by repeat (first | (with_reducible exact X2) | (with_reducible refine Row5.alloc ?_ _) | (with_reducible refine Row5.drew ?_)))
  have R3 : Row5 w3 (w.heap.size + 1) (.bool false) (.int .u64 0) (.int .u64 0) (.int .u64 0) (.int .u64 0) := Row5.keep hb (by repeat (first | (with_reducible exact R2) | (with_reducible refine Row5.alloc ?_ _) | (with_reducible refine Row5.drew ?_)))
  clear X2 R2
  clear BW2
  clear hb
  obtain ⟨Xc0, Xc1, Xc2, Xc3, Xc4⟩ := X3.parts
  obtain ⟨Xf0, Xf1, Xf2, Xf3, Xf4⟩ := X3.free
  go_wp2_with fail
  refine ((rpow_53 _)).mono ?_
  rintro e w4 ⟨s2, rfl, hr, hb⟩
  have hbX : Below w3.heap.size w3 w4 := btr (by repeat (first | (with_reducible exact Below.refl _ _) | (with_reducible refine bal ?_ _) | (with_reducible refine Below.drew ?_) | (with_reducible refine bdn ?_ _))) hb
  have DX4 : DR w4 s1 x := DR.keep hbX DX3
  clear DX3
  clear hbX
  have DP4 : DR w4 s2 (2 ^ 53) := hr
  clear hr
  have BW4 : Below w.heap.size w w4 := btr (by repeat (first | (with_reducible exact BW3) | (with_reducible refine bal ?_ _) | (with_reducible refine Below.drew ?_) | (with_reducible refine bdn ?_ _))) hb
  have X4 : Row5 w4 w.heap.size (.bool true) (.int .u64 (lb 0 x)) (.int .u64 (lb 1 x)) (.int .u64 (lb 2 x)) (.int .u64 (lb 3 x)) := Row5.keep hb (by repeat (first | (with_reducible exact X3) | (with_reducible refine Row5.alloc ?_ _) | (with_reducible refine Row5.drew ?_)))
  have R4 : Row5 w4 (w.heap.size + 1) (.bool false) (.int .u64 0) (.int .u64 0) (.int .u64 0) (.int .u64 0) := Row5.keep hb (by repeat (first | (with_reducible exact R3) | (with_reducible refine Row5.alloc ?_ _) | (with_reducible refine Row5.drew ?_)))
  clear X3 R3
  clear BW3
  clear hb
  go_wp2_with fail
  refine (radd_least (DR.keep (by repeat (first | (with_reducible exact Below.refl _ _) | (with_reducible refine bal ?_ _) | (with_reducible refine Below.drew ?_) | (with_reducible refine bdn ?_ _))) DP4) (DR.keep (by repeat (first | (with_reducible exact Below.refl _ _) | (with_reducible refine bal ?_ _) | (with_reducible refine Below.drew ?_) | (with_reducible refine bdn ?_ _))) (ten_new w4 1 (by decide) (by decide) 1 rfl)) L3.out L2.out).mono ?_
  rintro e w5 ⟨s3, rfl, hr, hb⟩
  have hbX : Below w4.heap.size w4 w5 := btr (by repeat (first | (with_reducible exact Below.refl _ _) | (with_reducible refine bal ?_ _) | (with_reducible refine Below.drew ?_) | (with_reducible refine bdn ?_ _))) hb
  have DX5 : DR w5 s1 x := DR.keep hbX DX4
  have DP5 : DR w5 s2 (2 ^ 53) := DR.keep hbX DP4
  clear DX4 DP4
  clear hbX
  have DL5 : DR w5 s3 9007199254740993 := hr
  clear hr
  have BW5 : Below w.heap.size w w5 := btr (by repeat (first | (with_reducible exact BW4) | (with_reducible refine bal ?_ _) | (with_reducible refine Below.drew ?_) | (with_reducible refine bdn ?_ _))) hb
  have X5 : Row5 w5 w.heap.size (.bool true) (.int .u64 (lb 0 x)) (.int .u64 (lb 1 x)) (.int .u64 (lb 2 x)) (.int .u64 (lb 3 x)) := Row5.keep hb (by repeat (first | (with_reducible exact X4) | (with_reducible refine Row5.alloc ?_ _) | (with_reducible refine Row5.drew ?_)))
  have R5 : Row5 w5 (w.heap.size + 1) (.bool false) (.int .u64 0) (.int .u64 0) (.int .u64 0) (.int .u64 0) := Row5.keep hb (by repeat (first | (with_reducible exact R4) | (with_reducible refine Row5.alloc ?_ _) | (with_reducible refine Row5.drew ?_)))
  clear X4 R4
  clear BW4
  clear hb
  go_wp2_with fail
  refine (rcmp_is HC.out L1.out (DR.keep (by repeat (first | (with_reducible exact Below.refl _ _) | (with_reducible refine bal ?_ _) | (with_reducible refine Below.drew ?_) | (with_reducible refine bdn ?_ _))) DX5) (DR.keep (by repeat (first | (with_reducible exact Below.refl _ _) | (with_reducible refine bal ?_ _) | (with_reducible refine Below.drew ?_) | (with_reducible refine bdn ?_ _))) DL5)).mono ?_
  rintro e w6 ⟨rfl, hb⟩
  have hbX : Below w5.heap.size w5 w6 := btr (by repeat (first | (with_reducible exact Below.refl _ _) | (with_reducible refine bal ?_ _) | (with_reducible refine Below.drew ?_) | (with_reducible refine bdn ?_ _))) hb
  have DX6 : DR w6 s1 x := DR.keep hbX DX5
  have DP6 : DR w6 s2 (2 ^ 53) := DR.keep hbX DP5
  have DL6 : DR w6 s3 9007199254740993 := DR.keep hbX DL5
  clear DX5 DP5 DL5
  clear hbX
  have BW6 : Below w.heap.size w w6 := btr (by repeat (first | (with_reducible exact BW5) | (with_reducible refine bal ?_ _) | (with_reducible refine Below.drew ?_) | (with_reducible refine bdn ?_ _))) hb
  have X6 : Row5 w6 w.heap.size (.bool true) (.int .u64 (lb 0 x)) (.int .u64 (lb 1 x)) (.int .u64 (lb 2 x)) (.int .u64 (lb 3 x)) := Row5.keep hb (by repeat (first | (with_reducible exact X5) | (with_reducible refine Row5.alloc ?_ _) | (with_reducible refine Row5.drew ?_)))
  have R6 : Row5 w6 (w.heap.size + 1) (.bool false) (.int .u64 0) (.int .u64 0) (.int .u64 0) (.int .u64 0) := Row5.keep hb (by repeat (first | (with_reducible exact R5) | (with_reducible refine Row5.alloc ?_ _) | (with_reducible refine Row5.drew ?_)))
  clear X5 R5
  clear BW5
  clear hb
  obtain ⟨Xc0, Xc1, Xc2, Xc3, Xc4⟩ := X6.parts
  obtain ⟨Xf0, Xf1, Xf2, Xf3, Xf4⟩ := X6.free
  go_wp2_with fail
  refine (KW.out _ _ (DR.keep (by repeat (first | (with_reducible exact Below.refl _ _) | (with_reducible refine bal ?_ _) | (with_reducible refine Below.drew ?_) | (with_reducible refine bdn ?_ _))) DL6)).mono ?_
  rintro e w7 ⟨rfl, hb⟩
  have hbX : Below w6.heap.size w6 w7 := btr (by repeat (first | (with_reducible exact Below.refl _ _) | (with_reducible refine bal ?_ _) | (with_reducible refine Below.drew ?_) | (with_reducible refine bdn ?_ _))) hb
  have DX7 : DR w7 s1 x := DR.keep hbX DX6
  have DP7 : DR w7 s2 (2 ^ 53) := DR.keep hbX DP6
  have DL7 : DR w7 s3 9007199254740993 := DR.keep hbX DL6
  clear DX6 DP6 DL6
  clear hbX
  have BW7 : Below w.heap.size w w7 := btr (by repeat (first | (with_reducible exact BW6) | (with_reducible refine bal ?_ _) | (with_reducible refine Below.drew ?_) | (with_reducible refine bdn ?_ _))) hb
  have X7 : Row5 w7 w.heap.size (.bool true) (.int .u64 (lb 0 x)) (.int .u64 (lb 1 x)) (.int .u64 (lb 2 x)) (.int .u64 (lb 3 x)) := Row5.keep hb (by repeat (first | (with_reducible exact X6) | (with_reducible refine Row5.alloc ?_ _) | (with_reducible refine Row5.drew ?_)))
  have R7 : Row5 w7 (w.heap.size + 1) (.bool false) (.int .u64 0) (.int .u64 0) (.int .u64 0) (.int .u64 0) := Row5.keep hb (by repeat (first | (with_reducible exact R6) | (with_reducible refine Row5.alloc ?_ _) | (with_reducible refine Row5.drew ?_)))
  clear X6 R6
  clear BW6
  clear hb
  obtain ⟨Rc0, Rc1, Rc2, Rc3, Rc4⟩ := R7.parts
  obtain ⟨Rf0, Rf1, Rf2, Rf3, Rf4⟩ := R7.free
  have lt_R := R7.lt
  go_wp2
  exact bodyPost_ret (v := .tuple #[.agg #[.bool h, .int .u64 y0, .int .u64 y1, .int .u64 y2, .int .u64 y3], .bool b]) (by simp [results, Tryd.results49, go_sem, Rc0, Rc1, Rc2, Rc3, Rc4]) rfl ⟨rfl, by repeat (first | (with_reducible exact BW7) | (with_reducible refine bal ?_ _) | (with_reducible refine Below.drew ?_) | (with_reducible refine bdn ?_ _) | ((with_reducible refine bsc ?_ ?_ _); rotate_left; (focus (simp only []; omega))))⟩
set_option maxHeartbeats 4000000 in
set_option maxRecDepth 100000 in
theorem rnear_less_true (x : Nat) (hx : x < 2 ^ 256) (h : Bool) (y0 y1 y2 y3 : Int) (b : Bool) (c : Int) (hc : rcv x 9007199254740993 = c) (hc0 : 0 ≤ c) (hle : 1 ≤ x) (w : World)
    (k1 : ∀ W, Calls Tryd.prog 29 #[I5 true x] W fun e w' => e = .returned (.bool true) ∧ Below W.heap.size W w')
    (k2 : ∀ W, Calls Tryd.prog 54 #[I5 true x] W fun e w' => e = .returned (.bool true) ∧ Below W.heap.size W w')
    (kw : ∀ s' W, DR W s' (x - 1) → Calls Tryd.prog 85 #[.bool true, s'] W fun e w' => e = .returned (.tuple #[.agg #[.bool h, .int .u64 y0, .int .u64 y1, .int .u64 y2, .int .u64 y3], .bool b]) ∧ Below W.heap.size W w')
    (ko : ∀ W, Calls Tryd.prog 92 #[.agg #[.bool h, .int .u64 y0, .int .u64 y1, .int .u64 y2, .int .u64 y3], .bool b, .bool true] W fun e w' => e = .returned (.tuple #[.agg #[.bool h, .int .u64 y0, .int .u64 y1, .int .u64 y2, .int .u64 y3], .bool b]) ∧ Below W.heap.size W w') :
    Calls Tryd.prog 49 #[I5 true x, .bool true, .bool false] w fun e w' => e = .returned (.tuple #[.agg #[.bool h, .int .u64 y0, .int .u64 y1, .int .u64 y2, .int .u64 y3], .bool b]) ∧ Below w.heap.size w w' := by
  unfold I5 at *
  have HX := Lib.hid hx; have K1 := Lib.hid k1; have K2 := Lib.hid k2; have KW := Lib.hid kw; have KO := Lib.hid ko; clear hx k1 k2 kw ko
  have HC := Lib.hid hc; clear hc
  have L1 := Lib.hid (digs_eight HX.out); have L2 := Lib.hid (digs_eight (show 1 < 2 ^ 256 by decide)); have L3 := Lib.hid (digs_eight (show 2 ^ 53 < 2 ^ 256 by decide))
  go_enter Tryd.func49, Tryd.ntmps49
  go_wp2_with fail
  refine (K1.out _).mono ?_
  rintro e w1 ⟨rfl, hb⟩
  have BW1 : Below w.heap.size w w1 := btr (by repeat (first | (with_reducible exact Below.refl _ _) | (with_reducible refine bal ?_ _) | (with_reducible refine Below.drew ?_) | (with_reducible refine bdn ?_ _))) hb
  have X1 : Row5 w1 w.heap.size (.bool true) (.int .u64 (lb 0 x)) (.int .u64 (lb 1 x)) (.int .u64 (lb 2 x)) (.int .u64 (lb 3 x)) := Row5.keep hb (by repeat (first | (with_reducible exact Row5.new _ _ _ _ _ _) | ((with_reducible refine Row5.new' _ ?_ _ _ _ _ _); (simp; done)) | (with_reducible refine Row5.alloc ?_ _) | (with_reducible refine Row5.drew ?_)))
  have R1 : Row5 w1 (w.heap.size + 1) (.bool false) (.int .u64 0) (.int .u64 0) (.int .u64 0) (.int .u64 0) := Row5.keep hb (by repeat (first | (with_reducible exact Row5.new _ _ _ _ _ _) | ((with_reducible refine Row5.new' _ ?_ _ _ _ _ _); (simp; done)) | (with_reducible refine Row5.alloc ?_ _) | (with_reducible refine Row5.drew ?_)))
  clear hb
  obtain ⟨Xc0, Xc1, Xc2, Xc3, Xc4⟩ := X1.parts
  obtain ⟨Xf0, Xf1, Xf2, Xf3, Xf4⟩ := X1.free
  go_wp2_with fail
  refine (K2.out _).mono ?_
  rintro e w2 ⟨rfl, hb⟩
  have BW2 : Below w.heap.size w w2 := btr (by repeat (first | (with_reducible exact BW1) | (with_reducible refine bal ?_ _) | (with_reducible refine Below.drew ?_) | (with_reducible refine bdn ?_ _))) hb
  have X2 : Row5 w2 w.heap.size (.bool true) (.int .u64 (lb 0 x)) (.int .u64 (lb 1 x)) (.int .u64 (lb 2 x)) (.int .u64 (lb 3 x)) := Row5.keep hb (by repeat (first | (with_reducible exact X1) | (with_reducible refine Row5.alloc ?_ _) | (with_reducible refine Row5.drew ?_)))
  have R2 : Row5 w2 (w.heap.size + 1) (.bool false) (.int .u64 0) (.int .u64 0) (.int .u64 0) (.int .u64 0) := Row5.keep hb (by repeat (first | (with_reducible exact R1) | (with_reducible refine Row5.alloc ?_ _) | (with_reducible refine Row5.drew ?_)))
  clear X1 R1
  clear BW1
  clear hb
  obtain ⟨Xc0, Xc1, Xc2, Xc3, Xc4⟩ := X2.parts
  obtain ⟨Xf0, Xf1, Xf2, Xf3, Xf4⟩ := X2.free
  go_wp2_with fail
  refine (rof x HX.out _).mono ?_
  rintro e w3 ⟨s1, rfl, hr, hb⟩
  have hbX : Below w2.heap.size w2 w3 := btr (by repeat (first | (with_reducible exact Below.refl _ _) | (with_reducible refine bal ?_ _) | (with_reducible refine Below.drew ?_) | (with_reducible refine bdn ?_ _))) hb
  clear hbX
  have DX3 : DR w3 s1 x := hr
  clear hr
  have BW3 : Below w.heap.size w w3 := btr (by repeat (first | (with_reducible exact BW2) | (with_reducible refine bal ?_ _) | (with_reducible refine Below.drew ?_) | (with_reducible refine bdn ?_ _))) hb
  have X3 : Row5 w3 w.heap.size (.bool true) (.int .u64 (lb 0 x)) (.int .u64 (lb 1 x)) (.int .u64 (lb 2 x)) (.int .u64 (lb 3 x)) := Row5.keep hb (by repeat (first | (with_reducible exact X2) | (with_reducible refine Row5.alloc ?_ _) | (with_reducible refine Row5.drew ?_)))
  have R3 : Row5 w3 (w.heap.size + 1) (.bool false) (.int .u64 0) (.int .u64 0) (.int .u64 0) (.int .u64 0) := Row5.keep hb (by repeat (first | (with_reducible exact R2) | (with_reducible refine Row5.alloc ?_ _) | (with_reducible refine Row5.drew ?_)))
  clear X2 R2
  clear BW2
  clear hb
  obtain ⟨Xc0, Xc1, Xc2, Xc3, Xc4⟩ := X3.parts
  obtain ⟨Xf0, Xf1, Xf2, Xf3, Xf4⟩ := X3.free
  go_wp2_with fail
  refine ((rpow_53 _)).mono ?_
  rintro e w4 ⟨s2, rfl, hr, hb⟩
  have hbX : Below w3.heap.size w3 w4 := btr (by repeat (first | (with_reducible exact Below.refl _ _) | (with_reducible refine bal ?_ _) | (with_reducible refine Below.drew ?_) | (with_reducible refine bdn ?_ _))) hb
  have DX4 : DR w4 s1 x := DR.keep hbX DX3
  clear DX3
  clear hbX
  have DP4 : DR w4 s2 (2 ^ 53) := hr
  clear hr
  have BW4 : Below w.heap.size w w4 := btr (by repeat (first | (with_reducible exact BW3) | (with_reducible refine bal ?_ _) | (with_reducible refine Below.drew ?_) | (with_reducible refine bdn ?_ _))) hb
  have X4 : Row5 w4 w.heap.size (.bool true) (.int .u64 (lb 0 x)) (.int .u64 (lb 1 x)) (.int .u64 (lb 2 x)) (.int .u64 (lb 3 x)) := Row5.keep hb (by repeat (first | (with_reducible exact X3) | (with_reducible refine Row5.alloc ?_ _) | (with_reducible refine Row5.drew ?_)))
  have R4 : Row5 w4 (w.heap.size + 1) (.bool false) (.int .u64 0) (.int .u64 0) (.int .u64 0) (.int .u64 0) := Row5.keep hb (by repeat (first | (with_reducible exact R3) | (with_reducible refine Row5.alloc ?_ _) | (with_reducible refine Row5.drew ?_)))
  clear X3 R3
  clear BW3
  clear hb
  go_wp2_with fail
  refine (radd_least (DR.keep (by repeat (first | (with_reducible exact Below.refl _ _) | (with_reducible refine bal ?_ _) | (with_reducible refine Below.drew ?_) | (with_reducible refine bdn ?_ _))) DP4) (DR.keep (by repeat (first | (with_reducible exact Below.refl _ _) | (with_reducible refine bal ?_ _) | (with_reducible refine Below.drew ?_) | (with_reducible refine bdn ?_ _))) (ten_new w4 1 (by decide) (by decide) 1 rfl)) L3.out L2.out).mono ?_
  rintro e w5 ⟨s3, rfl, hr, hb⟩
  have hbX : Below w4.heap.size w4 w5 := btr (by repeat (first | (with_reducible exact Below.refl _ _) | (with_reducible refine bal ?_ _) | (with_reducible refine Below.drew ?_) | (with_reducible refine bdn ?_ _))) hb
  have DX5 : DR w5 s1 x := DR.keep hbX DX4
  have DP5 : DR w5 s2 (2 ^ 53) := DR.keep hbX DP4
  clear DX4 DP4
  clear hbX
  have DL5 : DR w5 s3 9007199254740993 := hr
  clear hr
  have BW5 : Below w.heap.size w w5 := btr (by repeat (first | (with_reducible exact BW4) | (with_reducible refine bal ?_ _) | (with_reducible refine Below.drew ?_) | (with_reducible refine bdn ?_ _))) hb
  have X5 : Row5 w5 w.heap.size (.bool true) (.int .u64 (lb 0 x)) (.int .u64 (lb 1 x)) (.int .u64 (lb 2 x)) (.int .u64 (lb 3 x)) := Row5.keep hb (by repeat (first | (with_reducible exact X4) | (with_reducible refine Row5.alloc ?_ _) | (with_reducible refine Row5.drew ?_)))
  have R5 : Row5 w5 (w.heap.size + 1) (.bool false) (.int .u64 0) (.int .u64 0) (.int .u64 0) (.int .u64 0) := Row5.keep hb (by repeat (first | (with_reducible exact R4) | (with_reducible refine Row5.alloc ?_ _) | (with_reducible refine Row5.drew ?_)))
  clear X4 R4
  clear BW4
  clear hb
  go_wp2_with fail
  refine (rcmp_is HC.out L1.out (DR.keep (by repeat (first | (with_reducible exact Below.refl _ _) | (with_reducible refine bal ?_ _) | (with_reducible refine Below.drew ?_) | (with_reducible refine bdn ?_ _))) DX5) (DR.keep (by repeat (first | (with_reducible exact Below.refl _ _) | (with_reducible refine bal ?_ _) | (with_reducible refine Below.drew ?_) | (with_reducible refine bdn ?_ _))) DL5)).mono ?_
  rintro e w6 ⟨rfl, hb⟩
  have hbX : Below w5.heap.size w5 w6 := btr (by repeat (first | (with_reducible exact Below.refl _ _) | (with_reducible refine bal ?_ _) | (with_reducible refine Below.drew ?_) | (with_reducible refine bdn ?_ _))) hb
  have DX6 : DR w6 s1 x := DR.keep hbX DX5
  have DP6 : DR w6 s2 (2 ^ 53) := DR.keep hbX DP5
  have DL6 : DR w6 s3 9007199254740993 := DR.keep hbX DL5
  clear DX5 DP5 DL5
  clear hbX
  have BW6 : Below w.heap.size w w6 := btr (by repeat (first | (with_reducible exact BW5) | (with_reducible refine bal ?_ _) | (with_reducible refine Below.drew ?_) | (with_reducible refine bdn ?_ _))) hb
  have X6 : Row5 w6 w.heap.size (.bool true) (.int .u64 (lb 0 x)) (.int .u64 (lb 1 x)) (.int .u64 (lb 2 x)) (.int .u64 (lb 3 x)) := Row5.keep hb (by repeat (first | (with_reducible exact X5) | (with_reducible refine Row5.alloc ?_ _) | (with_reducible refine Row5.drew ?_)))
  have R6 : Row5 w6 (w.heap.size + 1) (.bool false) (.int .u64 0) (.int .u64 0) (.int .u64 0) (.int .u64 0) := Row5.keep hb (by repeat (first | (with_reducible exact R5) | (with_reducible refine Row5.alloc ?_ _) | (with_reducible refine Row5.drew ?_)))
  clear X5 R5
  clear BW5
  clear hb
  obtain ⟨Xc0, Xc1, Xc2, Xc3, Xc4⟩ := X6.parts
  obtain ⟨Xf0, Xf1, Xf2, Xf3, Xf4⟩ := X6.free
  go_upto_region 21 with (fail)
  go_name_world w7 hw7
  have BW7 : Below w.heap.size w w7 := by rw [← hw7]; repeat (first | (with_reducible exact BW6) | (with_reducible refine bal ?_ _) | (with_reducible refine Below.drew ?_) | (with_reducible refine bdn ?_ _))
  have hbX : Below w6.heap.size w6 w7 := by rw [← hw7]; repeat (first | (with_reducible exact Below.refl _ _) | (with_reducible refine bal ?_ _) | (with_reducible refine Below.drew ?_) | (with_reducible refine bdn ?_ _))
  have DX7 : DR w7 s1 x := DR.keep hbX DX6
  have DP7 : DR w7 s2 (2 ^ 53) := DR.keep hbX DP6
  have DL7 : DR w7 s3 9007199254740993 := DR.keep hbX DL6
  clear hbX DX6 DP6 DL6
  have X7 : Row5 w7 w.heap.size (.bool true) (.int .u64 (lb 0 x)) (.int .u64 (lb 1 x)) (.int .u64 (lb 2 x)) (.int .u64 (lb 3 x)) := by rw [← hw7]; exact (by repeat (first | (with_reducible exact X6) | (with_reducible refine Row5.alloc ?_ _) | (with_reducible refine Row5.drew ?_)))
  have R7 : Row5 w7 (w.heap.size + 1) (.bool false) (.int .u64 0) (.int .u64 0) (.int .u64 0) (.int .u64 0) := by rw [← hw7]; exact (by repeat (first | (with_reducible exact R6) | (with_reducible refine Row5.alloc ?_ _) | (with_reducible refine Row5.drew ?_)))
  clear X6 R6
  clear BW6
  clear hw7
  have lt_X := X7.lt
  have lt_R := R7.lt
  go_cut [15, 16] (fun s15 s16 wx => ∃ p : Nat, s15 = .pointer (some ⟨p, 0, none⟩) ∧ s16 = .bool b ∧ Row5 wx p (.bool h) (.int .u64 y0) (.int .u64 y1) (.int .u64 y2) (.int .u64 y3) ∧ w7.heap.size ≤ p ∧ Below w7.heap.size w7 wx)
  case first =>
    go_region_held3 (fun w' => w'.cell? ⟨w.heap.size, 0, none⟩ = some (.bool true) ∧ w'.cell? ⟨w.heap.size, 1, none⟩ = some (.int .u64 (lb 0 x)) ∧ w'.cell? ⟨w.heap.size, 2, none⟩ = some (.int .u64 (lb 1 x)) ∧ w'.cell? ⟨w.heap.size, 3, none⟩ = some (.int .u64 (lb 2 x)) ∧ w'.cell? ⟨w.heap.size, 4, none⟩ = some (.int .u64 (lb 3 x)))
      ((refine Row5.parts ?_; (repeat (first | (with_reducible assumption) | (with_reducible refine Row5.alloc ?_ _) | (with_reducible refine Row5.drew ?_) | ((with_reducible refine Row5.set ?_ ?_ _); rotate_left; (focus (omega))))); done))
      (first | (go_at_call 87; (with_reducible refine (rsub (DR.keep (by repeat (first | (with_reducible exact Below.refl _ _) | (with_reducible refine bal ?_ _) | (with_reducible refine Below.drew ?_) | (with_reducible refine bdn ?_ _))) DX7) (DR.keep (by repeat (first | (with_reducible exact Below.refl _ _) | (with_reducible refine bal ?_ _) | (with_reducible refine Below.drew ?_) | (with_reducible refine bdn ?_ _))) (ten_at _ _ 1 1 (by first | rfl | (simp; done)) (by decide) (by decide) rfl)) L1.out hle).mono ?_); rintro e wf1 ⟨sa, rfl, hra, hb1⟩; have Xf1 : Row5 wf1 w.heap.size (.bool true) (.int .u64 (lb 0 x)) (.int .u64 (lb 1 x)) (.int .u64 (lb 2 x)) (.int .u64 (lb 3 x)) := Row5.keep hb1 (by repeat (first | (with_reducible assumption) | (with_reducible refine Row5.alloc ?_ _) | (with_reducible refine Row5.drew ?_))); have ltXf1 := Xf1.lt; (first | (refine absorb (P := Row5 wf1 w7.heap.size (.bool false) (.int .u64 0) (.int .u64 0) (.int .u64 0) (.int .u64 0)) (Row5.keep hb1 ?_) (fun Z1 => ?_); (focus ((repeat (first | ((with_reducible refine Row5.new' _ ?_ _ _ _ _ _); (simp; done)) | (with_reducible refine Row5.alloc ?_ _) | (with_reducible refine Row5.drew ?_))); done))) | (refine absorb (P := Row5 wf1 (w7.heap.size + 1) (.bool false) (.int .u64 0) (.int .u64 0) (.int .u64 0) (.int .u64 0)) (Row5.keep hb1 ?_) (fun Z1 => ?_); (focus ((repeat (first | ((with_reducible refine Row5.new' _ ?_ _ _ _ _ _); (simp; done)) | (with_reducible refine Row5.alloc ?_ _) | (with_reducible refine Row5.drew ?_))); done))) | skip); (first | (obtain ⟨zc0, zc1, zc2, zc3, zc4⟩ := Z1.parts; obtain ⟨zf0, zf1, zf2, zf3, zf4⟩ := Z1.free) | skip)) | (go_at_call 85; (with_reducible refine (KW.out _ _ (DR.keep (by repeat (first | (with_reducible exact Below.refl _ _) | (with_reducible refine bal ?_ _) | (with_reducible refine Below.drew ?_) | (with_reducible refine bdn ?_ _))) hra)).mono ?_); rintro e wf2 ⟨rfl, hb2⟩; have Xf2 : Row5 wf2 w.heap.size (.bool true) (.int .u64 (lb 0 x)) (.int .u64 (lb 1 x)) (.int .u64 (lb 2 x)) (.int .u64 (lb 3 x)) := Row5.keep hb2 (by repeat (first | (with_reducible assumption) | (with_reducible refine Row5.alloc ?_ _) | (with_reducible refine Row5.drew ?_))); have ltXf2 := Xf2.lt; (first | (refine absorb (P := Row5 wf2 w7.heap.size (.bool false) (.int .u64 0) (.int .u64 0) (.int .u64 0) (.int .u64 0)) (Row5.keep hb2 ?_) (fun Z2 => ?_); (focus ((repeat (first | (with_reducible exact Z1) | (with_reducible refine Row5.alloc ?_ _) | (with_reducible refine Row5.drew ?_))); done))) | (refine absorb (P := Row5 wf2 (w7.heap.size + 1) (.bool false) (.int .u64 0) (.int .u64 0) (.int .u64 0) (.int .u64 0)) (Row5.keep hb2 ?_) (fun Z2 => ?_); (focus ((repeat (first | (with_reducible exact Z1) | (with_reducible refine Row5.alloc ?_ _) | (with_reducible refine Row5.drew ?_))); done))) | (refine absorb (P := Row5 wf2 wf1.heap.size (.bool false) (.int .u64 0) (.int .u64 0) (.int .u64 0) (.int .u64 0)) (Row5.keep hb2 ?_) (fun Z2 => ?_); (focus ((repeat (first | ((with_reducible refine Row5.new' _ ?_ _ _ _ _ _); (simp; done)) | (with_reducible refine Row5.alloc ?_ _) | (with_reducible refine Row5.drew ?_))); done))) | skip); (first | (obtain ⟨zc0, zc1, zc2, zc3, zc4⟩ := Z2.parts; obtain ⟨zf0, zf1, zf2, zf3, zf4⟩ := Z2.free) | skip)))
    all_goals
      have BB1 : Below w7.heap.size w7 wf1 := btr (by repeat (first | (with_reducible exact Below.refl _ _) | (with_reducible refine bal ?_ _) | (with_reducible refine Below.drew ?_) | (with_reducible refine bdn ?_ _))) hb1
      have BB2 : Below w7.heap.size w7 wf2 := btr (by repeat (first | (with_reducible exact BB1) | (with_reducible refine bal ?_ _) | (with_reducible refine Below.drew ?_) | (with_reducible refine bdn ?_ _))) hb2
      have hs := BB2.size
      have hs1 := BB1.size
      go_wp2_with fail
      go_meet
      first
        | with_reducible exact ⟨_, rfl, rfl, Row5.new _ _ _ _ _ _, hs, bal BB2 _⟩
        | with_reducible exact ⟨_, rfl, rfl, Row5.set5 Z2 _ _ _ _ _, by omega, bsc5 BB2 (by omega) _ _ _ _ _⟩
        | with_reducible exact ⟨_, rfl, rfl, Row5.set5 Z2 _ _ _ _ _, by omega, bsc5 BB2 (by omega) _ _ _ _ _⟩
  case rest =>
    obtain ⟨pO, rfl, rfl, Oq, hpO, hBO⟩ := hcut
    have hb := hBO
    generalize wc = w8 at *
    have BW8 : Below w.heap.size w w8 := btr BW7 hb
    have X8 : Row5 w8 w.heap.size (.bool true) (.int .u64 (lb 0 x)) (.int .u64 (lb 1 x)) (.int .u64 (lb 2 x)) (.int .u64 (lb 3 x)) := Row5.keep hb X7
    have R8 : Row5 w8 (w.heap.size + 1) (.bool false) (.int .u64 0) (.int .u64 0) (.int .u64 0) (.int .u64 0) := Row5.keep hb R7
    have O8 : Row5 w8 pO (.bool h) (.int .u64 y0) (.int .u64 y1) (.int .u64 y2) (.int .u64 y3) := Oq
    clear X7 R7 BW7 hb hBO Oq
    obtain ⟨Oc0, Oc1, Oc2, Oc3, Oc4⟩ := O8.parts
    obtain ⟨Of0, Of1, Of2, Of3, Of4⟩ := O8.free
    go_wp2_with fail
    refine (KO.out _).mono ?_
    rintro e w9 ⟨rfl, hb⟩
    have BW9 : Below w.heap.size w w9 := btr (by repeat (first | (with_reducible exact BW8) | (with_reducible refine bal ?_ _) | (with_reducible refine Below.drew ?_) | (with_reducible refine bdn ?_ _))) hb
    have X9 : Row5 w9 w.heap.size (.bool true) (.int .u64 (lb 0 x)) (.int .u64 (lb 1 x)) (.int .u64 (lb 2 x)) (.int .u64 (lb 3 x)) := Row5.keep hb (by repeat (first | (with_reducible exact X8) | (with_reducible refine Row5.alloc ?_ _) | (with_reducible refine Row5.drew ?_)))
    have R9 : Row5 w9 (w.heap.size + 1) (.bool false) (.int .u64 0) (.int .u64 0) (.int .u64 0) (.int .u64 0) := Row5.keep hb (by repeat (first | (with_reducible exact R8) | (with_reducible refine Row5.alloc ?_ _) | (with_reducible refine Row5.drew ?_)))
    have O9 : Row5 w9 pO (.bool h) (.int .u64 y0) (.int .u64 y1) (.int .u64 y2) (.int .u64 y3) := Row5.keep hb (by repeat (first | (with_reducible exact O8) | (with_reducible refine Row5.alloc ?_ _) | (with_reducible refine Row5.drew ?_)))
    clear X8 R8 O8
    clear BW8
    clear hb
    obtain ⟨Rc0, Rc1, Rc2, Rc3, Rc4⟩ := R9.parts
    obtain ⟨Rf0, Rf1, Rf2, Rf3, Rf4⟩ := R9.free
    have lt_R := R9.lt
    go_wp2
    exact bodyPost_ret (v := .tuple #[.agg #[.bool h, .int .u64 y0, .int .u64 y1, .int .u64 y2, .int .u64 y3], .bool b]) (by simp [results, Tryd.results49, go_sem, Rc0, Rc1, Rc2, Rc3, Rc4]) rfl ⟨rfl, by repeat (first | (with_reducible exact BW9) | (with_reducible refine bal ?_ _) | (with_reducible refine Below.drew ?_) | (with_reducible refine bdn ?_ _) | ((with_reducible refine bsc ?_ ?_ _); rotate_left; (focus (simp only []; omega))))⟩
end Go.Proofs.YtngmdncidieclaaDoor
