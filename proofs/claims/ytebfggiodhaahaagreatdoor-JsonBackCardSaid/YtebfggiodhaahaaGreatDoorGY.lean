/-
  FltTold RefPackD FWWalk FWAny, one behind the other: a claim holds at most 60 files.
-/
import Derived.Test.YtebfggiodhaahaaGreatDoorGF
import Derived.Test.YtebfggiodhaahaaGreatDoorGC
import Derived.Test.YtebfggiodhaahaaGreatDoorRefInt
section
namespace Go.Proofs.YtebfggiodhaahaaGreatDoor
open Go.RowKit Go.Shelf Go.Sort
attribute [local go_sem ↓] eql_nat neq_nat eql_int5 neq_int5

end Go.Proofs.YtebfggiodhaahaaGreatDoor
end
section
namespace Go.Proofs.YtebfggiodhaahaaGreatDoor
open Go.RowKit Go.Shelf

end Go.Proofs.YtebfggiodhaahaaGreatDoor
end
section
namespace Go.Proofs.YtebfggiodhaahaaGreatDoor
open Go.RowKit Go.Shelf
attribute [local go_sem ↓] eql_nat neq_nat eql_int5 neq_int5

set_option maxHeartbeats 1000000 in
set_option maxRecDepth 100000 in
theorem ofwhole_no (g : Bool) (x : Nat) (w : World) (hT : Tb w)
    (k1 : ∀ W, Tb W → Calls Tryz.prog 100 #[I5 g x] W fun e w' => e = .returned (.bool false) ∧ Below W.heap.size W w') :
    Calls Tryz.prog 173 #[I5 g x] w fun e w' => e = .returned (.tuple #[.int .u64 0, .bool false]) ∧ Below w.heap.size w w' := by
  unfold I5 at *
  have HT := Lib.hid hT; clear hT; have K1 := Lib.hid k1; clear k1
  go_enter Tryz.func173, Tryz.ntmps173
  go_wp2_with fail
  refine (K1.out _ (tb_on HT.out (by repeat (first | (with_reducible exact Below.refl _ _) | (with_reducible refine bal ?_ _) | (with_reducible refine Below.drew ?_) | (with_reducible refine bdn ?_ _))))).mono ?_
  rintro e w1 ⟨rfl, hb⟩
  have BW1 : Below w.heap.size w w1 := btr (by repeat (first | (with_reducible exact Below.refl _ _) | (with_reducible refine bal ?_ _) | (with_reducible refine Below.drew ?_) | (with_reducible refine bdn ?_ _))) hb
  have X1 : Row5 w1 w.heap.size (.bool g) (.int .u64 (lb 0 x)) (.int .u64 (lb 1 x)) (.int .u64 (lb 2 x)) (.int .u64 (lb 3 x)) := Row5.keep hb (by repeat (first | (with_reducible exact Row5.new _ _ _ _ _ _) | ((with_reducible refine Row5.new' _ ?_ _ _ _ _ _); (simp; done)) | (with_reducible refine Row5.alloc ?_ _) | (with_reducible refine Row5.drew ?_)))
  clear hb
  go_wp2
  exact bodyPost_ret (v := .tuple #[.int .u64 0, .bool false]) (by simp [results, Tryz.results173, go_sem]) rfl ⟨rfl, BW1⟩
set_option maxHeartbeats 1000000 in
set_option maxRecDepth 100000 in
theorem ofwhole_pos (x y : Nat) (t d r : Int) (w : World) (hT : Tb w)
    (k1 : ∀ W, Tb W → Calls Tryz.prog 100 #[I5 false x] W fun e w' => e = .returned (.bool true) ∧ Below W.heap.size W w')
    (k2 : ∀ W, Tb W → Calls Tryz.prog 144 #[N4 x] W fun e w' => e = .returned (.int .i64 t) ∧ Below W.heap.size W w')
    (k3 : ∀ W, Calls Tryz.prog 196 #[N4 x, .int .i64 t] W fun e w' => e = .returned (N4 y) ∧ Below W.heap.size W w')
    (k4 : ∀ W, Calls Tryz.prog 140 #[N4 y] W fun e w' => e = .returned (.tuple #[.int .u64 d, .bool true]) ∧ Below W.heap.size W w')
    (k5 : ∀ W, Calls Tryz.prog 197 #[.int .u64 d, .int .i64 t] W fun e w' => e = .returned (.int .u64 r) ∧ Below W.heap.size W w') :
    Calls Tryz.prog 173 #[I5 false x] w fun e w' => e = .returned (.tuple #[.int .u64 r, .bool true]) ∧ Below w.heap.size w w' := by
  unfold I5 at *
  have HT := Lib.hid hT; clear hT; have K1 := Lib.hid k1; have K2 := Lib.hid k2; have K3 := Lib.hid k3; have K4 := Lib.hid k4; have K5 := Lib.hid k5; clear k1 k2 k3 k4 k5
  go_enter Tryz.func173, Tryz.ntmps173
  go_wp2_with fail
  refine (K1.out _ (tb_on HT.out (by repeat (first | (with_reducible exact Below.refl _ _) | (with_reducible refine bal ?_ _) | (with_reducible refine Below.drew ?_) | (with_reducible refine bdn ?_ _))))).mono ?_
  rintro e w1 ⟨rfl, hb⟩
  have BW1 : Below w.heap.size w w1 := btr (by repeat (first | (with_reducible exact Below.refl _ _) | (with_reducible refine bal ?_ _) | (with_reducible refine Below.drew ?_) | (with_reducible refine bdn ?_ _))) hb
  have X1 : Row5 w1 w.heap.size (.bool false) (.int .u64 (lb 0 x)) (.int .u64 (lb 1 x)) (.int .u64 (lb 2 x)) (.int .u64 (lb 3 x)) := Row5.keep hb (by repeat (first | (with_reducible exact Row5.new _ _ _ _ _ _) | ((with_reducible refine Row5.new' _ ?_ _ _ _ _ _); (simp; done)) | (with_reducible refine Row5.alloc ?_ _) | (with_reducible refine Row5.drew ?_)))
  clear hb
  obtain ⟨Xc0, Xc1, Xc2, Xc3, Xc4⟩ := X1.parts
  obtain ⟨Xf0, Xf1, Xf2, Xf3, Xf4⟩ := X1.free
  go_wp2_with fail
  refine (K2.out _ (tb_on HT.out (by repeat (first | (with_reducible exact BW1) | (with_reducible refine bal ?_ _) | (with_reducible refine Below.drew ?_) | (with_reducible refine bdn ?_ _))))).mono ?_
  rintro e w2 ⟨rfl, hb⟩
  have BW2 : Below w.heap.size w w2 := btr (by repeat (first | (with_reducible exact BW1) | (with_reducible refine bal ?_ _) | (with_reducible refine Below.drew ?_) | (with_reducible refine bdn ?_ _))) hb
  have X2 : Row5 w2 w.heap.size (.bool false) (.int .u64 (lb 0 x)) (.int .u64 (lb 1 x)) (.int .u64 (lb 2 x)) (.int .u64 (lb 3 x)) := Row5.keep hb (by repeat (first | (with_reducible exact X1) | (with_reducible refine Row5.alloc ?_ _) | (with_reducible refine Row5.drew ?_)))
  clear X1
  clear BW1
  clear hb
  obtain ⟨Xc0, Xc1, Xc2, Xc3, Xc4⟩ := X2.parts
  obtain ⟨Xf0, Xf1, Xf2, Xf3, Xf4⟩ := X2.free
  go_wp2_with fail
  refine (K3.out _).mono ?_
  rintro e w3 ⟨rfl, hb⟩
  have BW3 : Below w.heap.size w w3 := btr (by repeat (first | (with_reducible exact BW2) | (with_reducible refine bal ?_ _) | (with_reducible refine Below.drew ?_) | (with_reducible refine bdn ?_ _))) hb
  have X3 : Row5 w3 w.heap.size (.bool false) (.int .u64 (lb 0 x)) (.int .u64 (lb 1 x)) (.int .u64 (lb 2 x)) (.int .u64 (lb 3 x)) := Row5.keep hb (by repeat (first | (with_reducible exact X2) | (with_reducible refine Row5.alloc ?_ _) | (with_reducible refine Row5.drew ?_)))
  clear X2
  clear BW2
  clear hb
  go_wp2_with fail
  refine (K4.out _).mono ?_
  rintro e w4 ⟨rfl, hb⟩
  have BW4 : Below w.heap.size w w4 := btr (by repeat (first | (with_reducible exact BW3) | (with_reducible refine bal ?_ _) | (with_reducible refine Below.drew ?_) | (with_reducible refine bdn ?_ _))) hb
  have X4 : Row5 w4 w.heap.size (.bool false) (.int .u64 (lb 0 x)) (.int .u64 (lb 1 x)) (.int .u64 (lb 2 x)) (.int .u64 (lb 3 x)) := Row5.keep hb (by repeat (first | (with_reducible exact X3) | (with_reducible refine Row5.alloc ?_ _) | (with_reducible refine Row5.drew ?_)))
  clear X3
  clear BW3
  clear hb
  obtain ⟨Xc0, Xc1, Xc2, Xc3, Xc4⟩ := X4.parts
  obtain ⟨Xf0, Xf1, Xf2, Xf3, Xf4⟩ := X4.free
  go_wp2_with fail
  refine (K5.out _).mono ?_
  rintro e w5 ⟨rfl, hb⟩
  have BW5 : Below w.heap.size w w5 := btr (by repeat (first | (with_reducible exact BW4) | (with_reducible refine bal ?_ _) | (with_reducible refine Below.drew ?_) | (with_reducible refine bdn ?_ _))) hb
  have X5 : Row5 w5 w.heap.size (.bool false) (.int .u64 (lb 0 x)) (.int .u64 (lb 1 x)) (.int .u64 (lb 2 x)) (.int .u64 (lb 3 x)) := Row5.keep hb (by repeat (first | (with_reducible exact X4) | (with_reducible refine Row5.alloc ?_ _) | (with_reducible refine Row5.drew ?_)))
  clear X4
  clear BW4
  clear hb
  go_wp2
  exact bodyPost_ret (v := .tuple #[.int .u64 r, .bool true]) (by simp [results, Tryz.results173, go_sem]) rfl ⟨rfl, BW5⟩
set_option maxHeartbeats 1000000 in
set_option maxRecDepth 100000 in
theorem ofwhole_neg (x y : Nat) (t d r z : Int) (hz : bits .or .u64 9223372036854775808 r = z) (w : World) (hT : Tb w)
    (k1 : ∀ W, Tb W → Calls Tryz.prog 100 #[I5 true x] W fun e w' => e = .returned (.bool true) ∧ Below W.heap.size W w')
    (k2 : ∀ W, Tb W → Calls Tryz.prog 144 #[N4 x] W fun e w' => e = .returned (.int .i64 t) ∧ Below W.heap.size W w')
    (k3 : ∀ W, Calls Tryz.prog 196 #[N4 x, .int .i64 t] W fun e w' => e = .returned (N4 y) ∧ Below W.heap.size W w')
    (k4 : ∀ W, Calls Tryz.prog 140 #[N4 y] W fun e w' => e = .returned (.tuple #[.int .u64 d, .bool true]) ∧ Below W.heap.size W w')
    (k5 : ∀ W, Calls Tryz.prog 197 #[.int .u64 d, .int .i64 t] W fun e w' => e = .returned (.int .u64 r) ∧ Below W.heap.size W w') :
    Calls Tryz.prog 173 #[I5 true x] w fun e w' => e = .returned (.tuple #[.int .u64 z, .bool true]) ∧ Below w.heap.size w w' := by
  unfold I5 at *
  have HT := Lib.hid hT; clear hT; have K1 := Lib.hid k1; have K2 := Lib.hid k2; have K3 := Lib.hid k3; have K4 := Lib.hid k4; have K5 := Lib.hid k5; clear k1 k2 k3 k4 k5
  go_enter Tryz.func173, Tryz.ntmps173
  go_wp2_with fail
  refine (K1.out _ (tb_on HT.out (by repeat (first | (with_reducible exact Below.refl _ _) | (with_reducible refine bal ?_ _) | (with_reducible refine Below.drew ?_) | (with_reducible refine bdn ?_ _))))).mono ?_
  rintro e w1 ⟨rfl, hb⟩
  have BW1 : Below w.heap.size w w1 := btr (by repeat (first | (with_reducible exact Below.refl _ _) | (with_reducible refine bal ?_ _) | (with_reducible refine Below.drew ?_) | (with_reducible refine bdn ?_ _))) hb
  have X1 : Row5 w1 w.heap.size (.bool true) (.int .u64 (lb 0 x)) (.int .u64 (lb 1 x)) (.int .u64 (lb 2 x)) (.int .u64 (lb 3 x)) := Row5.keep hb (by repeat (first | (with_reducible exact Row5.new _ _ _ _ _ _) | ((with_reducible refine Row5.new' _ ?_ _ _ _ _ _); (simp; done)) | (with_reducible refine Row5.alloc ?_ _) | (with_reducible refine Row5.drew ?_)))
  clear hb
  obtain ⟨Xc0, Xc1, Xc2, Xc3, Xc4⟩ := X1.parts
  obtain ⟨Xf0, Xf1, Xf2, Xf3, Xf4⟩ := X1.free
  go_wp2_with fail
  refine (K2.out _ (tb_on HT.out (by repeat (first | (with_reducible exact BW1) | (with_reducible refine bal ?_ _) | (with_reducible refine Below.drew ?_) | (with_reducible refine bdn ?_ _))))).mono ?_
  rintro e w2 ⟨rfl, hb⟩
  have BW2 : Below w.heap.size w w2 := btr (by repeat (first | (with_reducible exact BW1) | (with_reducible refine bal ?_ _) | (with_reducible refine Below.drew ?_) | (with_reducible refine bdn ?_ _))) hb
  have X2 : Row5 w2 w.heap.size (.bool true) (.int .u64 (lb 0 x)) (.int .u64 (lb 1 x)) (.int .u64 (lb 2 x)) (.int .u64 (lb 3 x)) := Row5.keep hb (by repeat (first | (with_reducible exact X1) | (with_reducible refine Row5.alloc ?_ _) | (with_reducible refine Row5.drew ?_)))
  clear X1
  clear BW1
  clear hb
  obtain ⟨Xc0, Xc1, Xc2, Xc3, Xc4⟩ := X2.parts
  obtain ⟨Xf0, Xf1, Xf2, Xf3, Xf4⟩ := X2.free
  go_wp2_with fail
  refine (K3.out _).mono ?_
  rintro e w3 ⟨rfl, hb⟩
  have BW3 : Below w.heap.size w w3 := btr (by repeat (first | (with_reducible exact BW2) | (with_reducible refine bal ?_ _) | (with_reducible refine Below.drew ?_) | (with_reducible refine bdn ?_ _))) hb
  have X3 : Row5 w3 w.heap.size (.bool true) (.int .u64 (lb 0 x)) (.int .u64 (lb 1 x)) (.int .u64 (lb 2 x)) (.int .u64 (lb 3 x)) := Row5.keep hb (by repeat (first | (with_reducible exact X2) | (with_reducible refine Row5.alloc ?_ _) | (with_reducible refine Row5.drew ?_)))
  clear X2
  clear BW2
  clear hb
  go_wp2_with fail
  refine (K4.out _).mono ?_
  rintro e w4 ⟨rfl, hb⟩
  have BW4 : Below w.heap.size w w4 := btr (by repeat (first | (with_reducible exact BW3) | (with_reducible refine bal ?_ _) | (with_reducible refine Below.drew ?_) | (with_reducible refine bdn ?_ _))) hb
  have X4 : Row5 w4 w.heap.size (.bool true) (.int .u64 (lb 0 x)) (.int .u64 (lb 1 x)) (.int .u64 (lb 2 x)) (.int .u64 (lb 3 x)) := Row5.keep hb (by repeat (first | (with_reducible exact X3) | (with_reducible refine Row5.alloc ?_ _) | (with_reducible refine Row5.drew ?_)))
  clear X3
  clear BW3
  clear hb
  obtain ⟨Xc0, Xc1, Xc2, Xc3, Xc4⟩ := X4.parts
  obtain ⟨Xf0, Xf1, Xf2, Xf3, Xf4⟩ := X4.free
  go_wp2_with fail
  refine (K5.out _).mono ?_
  rintro e w5 ⟨rfl, hb⟩
  have BW5 : Below w.heap.size w w5 := btr (by repeat (first | (with_reducible exact BW4) | (with_reducible refine bal ?_ _) | (with_reducible refine Below.drew ?_) | (with_reducible refine bdn ?_ _))) hb
  have X5 : Row5 w5 w.heap.size (.bool true) (.int .u64 (lb 0 x)) (.int .u64 (lb 1 x)) (.int .u64 (lb 2 x)) (.int .u64 (lb 3 x)) := Row5.keep hb (by repeat (first | (with_reducible exact X4) | (with_reducible refine Row5.alloc ?_ _) | (with_reducible refine Row5.drew ?_)))
  clear X4
  clear BW4
  clear hb
  go_wp2
  exact bodyPost_ret (v := .tuple #[.int .u64 z, .bool true]) (by simp [results, Tryz.results173, go_sem]) rfl ⟨rfl, BW5⟩
end Go.Proofs.YtebfggiodhaahaaGreatDoor
end
section
namespace Go.Proofs.YtebfggiodhaahaaGreatDoor
open Go.RowKit Go.Shelf Ieee

theorem same_under {f : FuncId} {l : Array Value} {w : World} {r : Ending} (h : Calls Tryz.prog f l w fun e w' => e = r ∧ w' = w) : Calls Tryz.prog f l w fun e w' => e = r ∧ Below w.heap.size w w' :=
  h.mono (fun _ _ ⟨a, b⟩ => ⟨a, by rw [b]; exact Below.refl _ _⟩)
theorem odd_ctz {d k m : Nat} (hd : d = 2 * m + 1) (h : d * 2 ^ k < 18446744073709551616) : Lib.ctz 64 (d * 2 ^ k) = k := by
  have hp := Nat.two_pow_pos k
  have h0 : d * 2 ^ k ≠ 0 := by
    have := Nat.mul_pos (show 0 < d by omega) hp
    omega
  obtain ⟨n, hn, _⟩ := ctz_word h0 h
  have hb : d * 2 ^ k < 2 ^ 256 := Nat.lt_trans h (by decide)
  have a := tz_unique hb hn
  have b := tz_unique (x := d * 2 ^ k) (k := k) (m := m) hb (by rw [← hd, Nat.mul_comm])
  omega
theorem nr_odd {d m : Nat} (hd : d = 2 * m + 1) {t : Nat} (hl : d.log2 ≤ 52) (ht : t + d.log2 ≤ 255) :
    nr d (t : Int) < INF ∧ dg (nr d (t : Int)) = d * 2 ^ (52 - d.log2) ∧ pw (nr d (t : Int)) = (t : Int) ∧ od (nr d (t : Int)) = d := by
  have h0 : d ≠ 0 := by omega
  obtain ⟨s1, s2, _, s4, s5⟩ := nr_spec (d := d) (p := (t : Int)) h0 hl (by omega) (by omega)
  have hb := top_bounds h0 hl
  rw [show (2 : Nat) ^ (52 + 1) = 9007199254740992 from by decide] at hb
  have hdg : dg (nr d (t : Int)) = d * 2 ^ (52 - d.log2) := by
    rw [← s2]
    unfold dg mg
    rw [dbl_binade, if_neg (by omega), if_neg (by omega)]
    omega
  have hc : Lib.ctz 64 (d * 2 ^ (52 - d.log2)) = 52 - d.log2 := odd_ctz hd (by omega)
  have hne : d * 2 ^ (52 - d.log2) ≠ 0 := by
    have := Nat.mul_pos (show 0 < d by omega) (Nat.two_pow_pos (52 - d.log2))
    omega
  refine ⟨s1, hdg, ?_, ?_⟩
  · unfold pw
    rw [hdg, if_neg hne, hc, s5]
    omega
  · unfold od
    rw [hdg, if_neg hne, hc, Nat.mul_div_cancel _ (Nat.two_pow_pos _)]
theorem whl_odd {d m : Nat} (hd : d = 2 * m + 1) {t s : Nat} (hl : d.log2 ≤ 52) (ht : t + d.log2 ≤ 255) (hn : d * 2 ^ t < 2 ^ 256) :
    whl (s * 9223372036854775808 + nr d (t : Int)) = some (d * 2 ^ t) := by
  obtain ⟨a, b, c, e⟩ := nr_odd hd hl ht
  have a' : nr d (t : Int) < 9223372036854775808 := Nat.lt_trans a (by decide)
  rw [whl_rg, (word_parts a').1]
  unfold whl
  rw [show rg (nr d (t : Int)) = nr d (t : Int) from by unfold rg; exact Nat.mod_eq_of_lt a', c, e, if_pos ⟨a, by omega, by rw [Int.toNat_natCast]; exact hn⟩, Int.toNat_natCast]
theorem blen_shl {d t : Nat} (h : d ≠ 0) : blen (d * 2 ^ t) = d.log2 + 1 + t := by
  refine blen_unique (by omega) ?_ ?_
  · rw [show d.log2 + 1 + t - 1 = d.log2 + t from by omega, Nat.pow_add]
    exact Nat.mul_le_mul_right _ (Nat.log2_self_le h)
  · rw [Nat.pow_add]
    exact Nat.mul_lt_mul_of_pos_right Nat.lt_log2_self (Nat.two_pow_pos t)
/-- What an exact number is made of. -/
theorem exq_parts {x : Nat} (hx : x < 2 ^ 256) (h0 : x ≠ 0) (hq : exq x = true) : ∃ d m t, d = 2 * m + 1 ∧ x = d * 2 ^ t ∧ t = tz x ∧ d.log2 ≤ 52 ∧ t + d.log2 ≤ 255 ∧ blen x = d.log2 + 1 + t ∧ x / 2 ^ t = d := by
  obtain ⟨⟨m, hm⟩, ht⟩ := tz_spec h0 hx
  have hx2 : x = (2 * m + 1) * 2 ^ tz x := by rw [Nat.mul_comm]; exact hm
  have hb : blen x = (2 * m + 1).log2 + 1 + tz x := by
    have := blen_shl (d := 2 * m + 1) (t := tz x) (by omega)
    rw [← hx2] at this
    exact this
  have hL := blen_le hx
  unfold exq at hq
  have hq := of_decide_eq_true hq
  refine ⟨2 * m + 1, m, tz x, rfl, hx2, rfl, by omega, by omega, hb, ?_⟩
  have : (2 * m + 1) * 2 ^ tz x / 2 ^ tz x = 2 * m + 1 := Nat.mul_div_cancel _ (Nat.two_pow_pos _)
  rw [← hx2] at this
  exact this
/-- A float's word, of a whole number that is exact. -/
def wwd (g : Bool) (x : Nat) : Nat := if x = 0 then 0 else g.toNat * 9223372036854775808 + nr (x / 2 ^ tz x) (tz x : Int)
theorem ofw_z (z : Int) (hz : z.natAbs < 2 ^ 256) (hq : exq z.natAbs = true) (w : World) (hT : Tb w) :
    Calls Tryz.prog 173 #[Iz z] w fun e w' => e = .returned (.tuple #[.int .u64 (wwd (decide (z < 0)) z.natAbs : Nat), .bool true]) ∧ Below w.heap.size w w' := by
  have k1 : ∀ W, Tb W → Calls Tryz.prog 100 #[I5 (decide (z < 0)) z.natAbs] W fun e w' => e = .returned (.bool true) ∧ Below W.heap.size W w' := fun W hW => by
    have := exact_z z hz W hW
    rw [hq] at this
    exact this
  have k2 : ∀ W, Tb W → Calls Tryz.prog 144 #[N4 z.natAbs] W fun e w' => e = .returned (.int .i64 (tz z.natAbs : Int)) ∧ Below W.heap.size W w' := fun W hW => (trail_one _ hz W hW).mono (fun e w' ⟨he, o, ho⟩ => ⟨he, by rw [ho]; exact bal (Below.refl _ _) _⟩)
  have htl := tz_le hz
  have k3 := fun W => shr_any z.natAbs hz (tz z.natAbs : Int) (by omega) W
  rw [Int.toNat_natCast] at k3
  have hlow : ∀ d, d < 18446744073709551616 → ∀ W, Calls Tryz.prog 140 #[N4 d] W fun e w' => e = .returned (.tuple #[.int .u64 (d : Int), .bool true]) ∧ Below W.heap.size W w' := fun d hd W => by
    have := low_any d (Nat.lt_trans hd (by decide)) W
    rw [if_pos hd] at this
    exact this
  show Calls Tryz.prog 173 #[I5 (decide (z < 0)) z.natAbs] w _
  by_cases h0 : z.natAbs = 0
  · have hz0 : z = 0 := by omega
    subst hz0
    have := ofwhole_pos 0 0 256 0 0 w hT k1 k2 k3 (hlow 0 (by decide)) (fun W => same_under (scaled_zero 256 W))
    exact this
  · obtain ⟨d, m, t, hd, e, et, hl, ht, hb, hdiv⟩ := exq_parts hz h0 hq
    have hd0 : d ≠ 0 := by omega
    have hM := top_bounds hd0 hl
    rw [show (2 : Nat) ^ (52 + 1) = 9007199254740992 from by decide] at hM
    have hd53 : d < 9007199254740992 := by
      have : d * 1 ≤ d * 2 ^ (52 - d.log2) := Nat.mul_le_mul_left _ (Nat.two_pow_pos _)
      omega
    have hw : wwd (decide (z < 0)) z.natAbs = (decide (z < 0)).toNat * 9223372036854775808 + nr d (t : Int) := by
      unfold wwd
      rw [if_neg h0, ← et, hdiv]
    rw [hw]
    rw [← et] at k2 k3
    rw [hdiv] at k3
    have k5 := fun W => same_under (scaled_any d (t : Int) hd0 hl (by omega) (by omega) W)
    have hnr := (nr_odd hd hl ht).1
    have hI : INF = 9218868437227405312 := rfl
    cases hg : decide (z < 0) with
    | false =>
      rw [hg] at k1
      have := ofwhole_pos z.natAbs d (t : Int) d (nr d (t : Int) : Nat) w hT k1 k2 k3 (hlow d (by omega)) k5
      simp only [Bool.toNat_false, Nat.zero_mul, Nat.zero_add]
      exact this
    | true =>
      rw [hg] at k1
      refine ofwhole_neg z.natAbs d (t : Int) d (nr d (t : Int) : Nat) _ ?_ w hT k1 k2 k3 (hlow d (by omega)) k5
      have := u64_or_nat 9223372036854775808 (nr d (t : Int)) (by decide) (by omega)
      have h2 := Nat.two_pow_add_eq_or_of_lt (i := 63) (b := nr d (t : Int)) (by omega) 1
      rw [show (2 : Nat) ^ 63 = 9223372036854775808 from by decide, Nat.mul_one] at h2
      rw [← h2] at this
      simp only [Bool.toNat_true, Nat.one_mul]
      exact this
end Go.Proofs.YtebfggiodhaahaaGreatDoor
end
