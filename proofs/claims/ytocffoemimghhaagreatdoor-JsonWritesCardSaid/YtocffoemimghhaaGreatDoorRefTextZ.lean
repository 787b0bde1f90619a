/-
  The reference's PrintInt, ParseInt: the contracts, for all whole numbers of a sign and four words, all texts of at most 500 bytes.
-/
import Derived.Test.YtocffoemimghhaaGreatDoorGN
import Derived.Test.YtocffoemimghhaaGreatDoorRefInt
import Derived.Test.YtocffoemimghhaaGreatDoorTextsA
namespace Go.Proofs.YtocffoemimghhaaGreatDoor
open Go.RowKit Go.Shelf
attribute [local go_sem ↓] eql_nat neq_nat eql_int5 neq_int5

set_option maxHeartbeats 1000000 in
set_option maxRecDepth 100000 in
theorem rprintint_pos (x : Nat) (p : ByteArray) (hx : x < 2 ^ 256) (_hp : p.size ≤ 78) (w : World)
    (k6 : ∀ s' W, DR W s' x → Calls Tryz.prog 71 #[s'] W fun e w' => e = .returned (.string p) ∧ Below W.heap.size W w') :
    Calls Tryz.prog 38 #[I5 false x] w fun e w' => e = .returned (.string p) ∧ Below w.heap.size w w' := by
  have K6 := Lib.hid k6; have HX := Lib.hid hx; clear k6 hx
  unfold I5
  go_enter Tryz.func38, Tryz.ntmps38
  go_wp2_with fail
  refine (rmay_pos _ _ _ _ _).mono ?_
  rintro e w1 ⟨rfl, hb⟩
  have BW1 : Below w.heap.size w w1 := btr (by repeat (first | (with_reducible exact Below.refl _ _) | (with_reducible refine bal ?_ _) | (with_reducible refine Below.drew ?_) | (with_reducible refine bdn ?_ _))) hb
  have X1 : Row5 w1 w.heap.size (.bool false) (.int .u64 (lb 0 x)) (.int .u64 (lb 1 x)) (.int .u64 (lb 2 x)) (.int .u64 (lb 3 x)) := Row5.keep hb (by repeat (first | (with_reducible exact Row5.new _ _ _ _ _ _) | ((with_reducible refine Row5.new' _ ?_ _ _ _ _ _); (simp; done)) | (with_reducible refine Row5.alloc ?_ _) | (with_reducible refine Row5.drew ?_)))
  clear hb
  obtain ⟨Xc0, Xc1, Xc2, Xc3, Xc4⟩ := X1.parts
  obtain ⟨Xf0, Xf1, Xf2, Xf3, Xf4⟩ := X1.free
  go_wp2_with fail
  refine (rof x HX.out _).mono ?_
  rintro e w2 ⟨s1, rfl, hr, hb⟩
  have hbX : Below w1.heap.size w1 w2 := btr (by repeat (first | (with_reducible exact Below.refl _ _) | (with_reducible refine bal ?_ _) | (with_reducible refine Below.drew ?_) | (with_reducible refine bdn ?_ _))) hb
  clear hbX
  have DX2 : DR w2 s1 x := hr
  clear hr
  have BW2 : Below w.heap.size w w2 := btr (by repeat (first | (with_reducible exact BW1) | (with_reducible refine bal ?_ _) | (with_reducible refine Below.drew ?_) | (with_reducible refine bdn ?_ _))) hb
  have X2 : Row5 w2 w.heap.size (.bool false) (.int .u64 (lb 0 x)) (.int .u64 (lb 1 x)) (.int .u64 (lb 2 x)) (.int .u64 (lb 3 x)) := Row5.keep hb (by repeat (first | (with_reducible exact X1) | (with_reducible refine Row5.alloc ?_ _) | (with_reducible refine Row5.drew ?_)))
  clear X1
  clear BW1
  clear hb
  go_wp2_with fail
  refine (K6.out _ _ (DR.keep (by repeat (first | (with_reducible exact Below.refl _ _) | (with_reducible refine bal ?_ _) | (with_reducible refine Below.drew ?_) | (with_reducible refine bdn ?_ _))) DX2)).mono ?_
  rintro e w3 ⟨rfl, hb⟩
  have hbX : Below w2.heap.size w2 w3 := btr (by repeat (first | (with_reducible exact Below.refl _ _) | (with_reducible refine bal ?_ _) | (with_reducible refine Below.drew ?_) | (with_reducible refine bdn ?_ _))) hb
  have DX3 : DR w3 s1 x := DR.keep hbX DX2
  clear DX2
  clear hbX
  have BW3 : Below w.heap.size w w3 := btr (by repeat (first | (with_reducible exact BW2) | (with_reducible refine bal ?_ _) | (with_reducible refine Below.drew ?_) | (with_reducible refine bdn ?_ _))) hb
  have X3 : Row5 w3 w.heap.size (.bool false) (.int .u64 (lb 0 x)) (.int .u64 (lb 1 x)) (.int .u64 (lb 2 x)) (.int .u64 (lb 3 x)) := Row5.keep hb (by repeat (first | (with_reducible exact X2) | (with_reducible refine Row5.alloc ?_ _) | (with_reducible refine Row5.drew ?_)))
  clear X2
  clear BW2
  clear hb
  obtain ⟨Xc0, Xc1, Xc2, Xc3, Xc4⟩ := X3.parts
  obtain ⟨Xf0, Xf1, Xf2, Xf3, Xf4⟩ := X3.free
  go_wp2
  go_ret
  exact ⟨rfl, BW3⟩
set_option maxHeartbeats 1000000 in
set_option maxRecDepth 100000 in
theorem rprintint_neg (x : Nat) (p : ByteArray) (hx : x < 2 ^ 256) (hp : p.size ≤ 78) (q1 : eq4 (lb 0 x) (lb 1 x) (lb 2 x) (lb 3 x) 0 0 0 0 = false) (w : World)
    (k6 : ∀ s' W, DR W s' x → Calls Tryz.prog 71 #[s'] W fun e w' => e = .returned (.string p) ∧ Below W.heap.size W w') :
    Calls Tryz.prog 38 #[I5 true x] w fun e w' => e = .returned (.string (⟨#[45]⟩ ++ p)) ∧ Below w.heap.size w w' := by
  have K6 := Lib.hid k6; have HX := Lib.hid hx; clear k6 hx
  unfold I5
  have hm := rmay_neg (lb 0 x) (lb 1 x) (lb 2 x) (lb 3 x)
  rw [q1] at hm
  have HM := Lib.hid hm; clear hm
  go_enter Tryz.func38, Tryz.ntmps38
  go_wp2_with fail
  refine (HM.out _).mono ?_
  rintro e w1 ⟨rfl, hb⟩
  have BW1 : Below w.heap.size w w1 := btr (by repeat (first | (with_reducible exact Below.refl _ _) | (with_reducible refine bal ?_ _) | (with_reducible refine Below.drew ?_) | (with_reducible refine bdn ?_ _))) hb
  have X1 : Row5 w1 w.heap.size (.bool true) (.int .u64 (lb 0 x)) (.int .u64 (lb 1 x)) (.int .u64 (lb 2 x)) (.int .u64 (lb 3 x)) := Row5.keep hb (by repeat (first | (with_reducible exact Row5.new _ _ _ _ _ _) | ((with_reducible refine Row5.new' _ ?_ _ _ _ _ _); (simp; done)) | (with_reducible refine Row5.alloc ?_ _) | (with_reducible refine Row5.drew ?_)))
  clear hb
  obtain ⟨Xc0, Xc1, Xc2, Xc3, Xc4⟩ := X1.parts
  obtain ⟨Xf0, Xf1, Xf2, Xf3, Xf4⟩ := X1.free
  go_wp2_with fail
  refine (rof x HX.out _).mono ?_
  rintro e w2 ⟨s1, rfl, hr, hb⟩
  have hbX : Below w1.heap.size w1 w2 := btr (by repeat (first | (with_reducible exact Below.refl _ _) | (with_reducible refine bal ?_ _) | (with_reducible refine Below.drew ?_) | (with_reducible refine bdn ?_ _))) hb
  clear hbX
  have DX2 : DR w2 s1 x := hr
  clear hr
  have BW2 : Below w.heap.size w w2 := btr (by repeat (first | (with_reducible exact BW1) | (with_reducible refine bal ?_ _) | (with_reducible refine Below.drew ?_) | (with_reducible refine bdn ?_ _))) hb
  have X2 : Row5 w2 w.heap.size (.bool true) (.int .u64 (lb 0 x)) (.int .u64 (lb 1 x)) (.int .u64 (lb 2 x)) (.int .u64 (lb 3 x)) := Row5.keep hb (by repeat (first | (with_reducible exact X1) | (with_reducible refine Row5.alloc ?_ _) | (with_reducible refine Row5.drew ?_)))
  clear X1
  clear BW1
  clear hb
  go_wp2_with fail
  refine (K6.out _ _ (DR.keep (by repeat (first | (with_reducible exact Below.refl _ _) | (with_reducible refine bal ?_ _) | (with_reducible refine Below.drew ?_) | (with_reducible refine bdn ?_ _))) DX2)).mono ?_
  rintro e w3 ⟨rfl, hb⟩
  have hbX : Below w2.heap.size w2 w3 := btr (by repeat (first | (with_reducible exact Below.refl _ _) | (with_reducible refine bal ?_ _) | (with_reducible refine Below.drew ?_) | (with_reducible refine bdn ?_ _))) hb
  have DX3 : DR w3 s1 x := DR.keep hbX DX2
  clear DX2
  clear hbX
  have BW3 : Below w.heap.size w w3 := btr (by repeat (first | (with_reducible exact BW2) | (with_reducible refine bal ?_ _) | (with_reducible refine Below.drew ?_) | (with_reducible refine bdn ?_ _))) hb
  have X3 : Row5 w3 w.heap.size (.bool true) (.int .u64 (lb 0 x)) (.int .u64 (lb 1 x)) (.int .u64 (lb 2 x)) (.int .u64 (lb 3 x)) := Row5.keep hb (by repeat (first | (with_reducible exact X2) | (with_reducible refine Row5.alloc ?_ _) | (with_reducible refine Row5.drew ?_)))
  clear X2
  clear BW2
  clear hb
  obtain ⟨Xc0, Xc1, Xc2, Xc3, Xc4⟩ := X3.parts
  obtain ⟨Xf0, Xf1, Xf2, Xf3, Xf4⟩ := X3.free
  go_wp2
  go_ret
  exact ⟨rfl, BW3⟩
theorem rprintint_z (z : Int) (hz : z.natAbs < 2 ^ 256) (w : World) :
    Calls Tryz.prog 38 #[Iz z] w fun e w' => e = .returned (.string (zstr z)) ∧ Below w.heap.size w w' := by
  rcases sgn z with ⟨n, rfl⟩ | ⟨n, hn, rfl⟩
  · have hn2 : n < 2 ^ 256 := by omega
    have lx : (digs n).length ≤ 1000 := Nat.le_trans (digs_len.2 (show n < 2 ^ (32 * 8) from hn2)) (by decide)
    have e : zstr (n : Int) = dstr n := by unfold zstr; rw [if_neg (by omega), Int.natAbs_natCast]
    rw [Iz_nat, e]
    exact rprintint_pos n (dstr n) hn2 (dstr_le hn2) w (fun s' W hD => rprint hD lx)
  · have hn2 : n < 2 ^ 256 := by omega
    have lx : (digs n).length ≤ 1000 := Nat.le_trans (digs_len.2 (show n < 2 ^ (32 * 8) from hn2)) (by decide)
    have e : zstr (-(n : Int)) = ⟨#[45]⟩ ++ dstr n := by unfold zstr; rw [if_pos (by omega), Int.natAbs_neg, Int.natAbs_natCast]
    rw [Iz_neg hn, e]
    exact rprintint_neg n (dstr n) hn2 (dstr_le hn2) ((eq4_of n 0 hn2 (by decide)).trans (decide_eq_false hn)) w (fun s' W hD => rprint hD lx)
end Go.Proofs.YtocffoemimghhaaGreatDoor
