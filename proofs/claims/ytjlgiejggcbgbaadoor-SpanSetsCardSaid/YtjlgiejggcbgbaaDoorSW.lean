/-
  RefInt RefLess RefMul RefSmall RefApi RefText RefNum WholeJ NumWalk NumAny SpO, one behind the other: a claim holds at most 60 files.
-/
import Derived.Test.YtjlgiejggcbgbaaDoorRefWh
import Derived.Test.YtjlgiejggcbgbaaDoorRefMulMath
import Derived.Test.YtjlgiejggcbgbaaDoorNatShMath
import Derived.Lib.QuietBelow
import Derived.BigQuiet
import Derived.Test.YtjlgiejggcbgbaaDoorRefBase
import Derived.Test.YtjlgiejggcbgbaaDoorRefNat
import Derived.Test.YtjlgiejggcbgbaaDoorWholeF
import Derived.Test.YtjlgiejggcbgbaaDoorWholeH
import Derived.Test.YtjlgiejggcbgbaaDoorSpN
section
namespace Go.Proofs.YtjlgiejggcbgbaaDoor
open Go.RowKit Go.Shelf
attribute [local go_sem ↓] eql_nat neq_nat eql_int5 neq_int5

theorem rmay_pos (x0 x1 x2 x3 : Int) (w : World) :
    Calls Tryd.prog 24 #[.agg #[.bool false, .int .u64 x0, .int .u64 x1, .int .u64 x2, .int .u64 x3]] w fun e w' => e = .returned (.bool true) ∧ Below w.heap.size w w' := by
  go_enter Tryd.func24, Tryd.ntmps24
  go_wp2
  go_ret
  exact ⟨rfl, by repeat (first | exact Below.refl _ _ | refine bal ?_ _ | refine Below.drew ?_ | refine bdn ?_ _)⟩
theorem rmay_neg (x0 x1 x2 x3 : Int) (w : World) :
    Calls Tryd.prog 24 #[.agg #[.bool true, .int .u64 x0, .int .u64 x1, .int .u64 x2, .int .u64 x3]] w fun e w' => e = .returned (.bool (!eq4 x0 x1 x2 x3 0 0 0 0)) ∧ Below w.heap.size w w' := by
  go_enter Tryd.func24, Tryd.ntmps24
  go_wp2
  go_ret
  exact ⟨rfl, by repeat (first | exact Below.refl _ _ | refine bal ?_ _ | refine Below.drew ?_ | refine bdn ?_ _)⟩
theorem rofint_pos (v : Int) (h0 : ¬ v < 0) (h1 : v < 9223372036854775808) (w : World) :
    Calls Tryd.prog 20 #[.int .i64 v] w fun e w' => e = .returned (.agg #[.bool false, .int .u64 v, .int .u64 0, .int .u64 0, .int .u64 0]) ∧ Below w.heap.size w w' := by
  have w1 : IntKind.u64.wrap v = v := by rw [IntKind.wrap_u64]; omega
  go_enter Tryd.func20, Tryd.ntmps20
  go_wp2
  refine bodyPost_ret (v := .agg #[.bool false, .int .u64 v, .int .u64 0, .int .u64 0, .int .u64 0]) (by simp [results, Tryd.results20, go_sem]) rfl ⟨rfl, ?_⟩
  repeat (first | (with_reducible exact Below.refl _ _) | (with_reducible refine bal ?_ _) | (with_reducible refine Below.drew ?_) | (with_reducible refine bdn ?_ _) | ((with_reducible refine bsc ?_ ?_ _); rotate_left; (focus (simp only []; omega))))
theorem rofint_neg (v p q : Int) (h0 : v < 0) (h1 : -9223372036854775808 ≤ v) (hp : p = v + 1) (hq : q = -p) (w : World) :
    Calls Tryd.prog 20 #[.int .i64 v] w fun e w' => e = .returned (.agg #[.bool true, .int .u64 (-v), .int .u64 0, .int .u64 0, .int .u64 0]) ∧ Below w.heap.size w w' := by
  have w0 : IntKind.i64.wrap (v + 1) = p := by rw [Go.IntWalk.i64_in _ (by omega)]; omega
  have w1 : IntKind.i64.wrap (-p) = q := by rw [Go.IntWalk.i64_in _ (by omega)]; omega
  have w2 : IntKind.u64.wrap q = q := by rw [IntKind.wrap_u64]; omega
  have w3 : IntKind.u64.wrap (q + 1) = -v := by rw [IntKind.wrap_u64]; omega
  clear hp hq
  go_enter Tryd.func20, Tryd.ntmps20
  go_wp2
  refine bodyPost_ret (v := .agg #[.bool true, .int .u64 (-v), .int .u64 0, .int .u64 0, .int .u64 0]) (by simp [results, Tryd.results20, go_sem]) rfl ⟨rfl, ?_⟩
  repeat (first | (with_reducible exact Below.refl _ _) | (with_reducible refine bal ?_ _) | (with_reducible refine Below.drew ?_) | (with_reducible refine bdn ?_ _) | ((with_reducible refine bsc ?_ ?_ _); rotate_left; (focus (simp only []; omega))))
end Go.Proofs.YtjlgiejggcbgbaaDoor
end
section
namespace Go.Proofs.YtjlgiejggcbgbaaDoor
open Go.RowKit Go.Shelf

/-- A word out of two halves. -/
theorem word_or (c a s : Nat) (hc : c < 4294967296) (ha : a < 4294967296) (hs : s = c * 4294967296 + a) : bits .or .u64 (IntKind.u64.wrap ((c : Int) * 4294967296)) (a : Int) = (s : Int) := by
  have e0 : (4294967296 : Int) = 2 ^ 32 := by decide
  rw [e0, wrap_mul_pow]
  have e : c * 2 ^ 32 % 2 ^ 64 = 2 ^ 32 * c := by omega
  rw [e, u64_or_nat _ _ (by omega) (by omega), ← Nat.two_pow_add_eq_or_of_lt (i := 32) (b := a) (by omega) c]
  omega
/-- What holds at the head of Less's loop, k digits still to be divided. -/
def LessAt (x d n k c : Nat) (O : List Nat) : Prop :=
  O.length = n ∧ Sm O ∧ c = x / 2 ^ (32 * k) % d ∧ dval O = 2 ^ (32 * k) * (x / 2 ^ (32 * k) / d)
theorem LessAt.start {x d n : Nat} (hx : x < 2 ^ (32 * n)) : LessAt x d n n 0 (List.replicate n 0) :=
  ⟨by simp, Sm.zeros n, by rw [Nat.div_eq_of_lt hx, Nat.zero_mod], by rw [dval_zeros, Nat.div_eq_of_lt hx, Nat.zero_div, Nat.mul_zero]⟩
theorem LessAt.next {x d n i c : Nat} {O : List Nat} (hd : 0 < d) (hi : i < n) (h : LessAt x d n (i + 1) c O) {s : Nat} (hs : s = c * 4294967296 + x / 2 ^ (32 * i) % 4294967296) :
    s / d < 4294967296 ∧ LessAt x d n i (s % d) (O.set i (s / d)) := by
  obtain ⟨h1, h2, h3, h4⟩ := h
  have hc : c < d := by rw [h3]; exact Nat.mod_lt _ hd
  have hl := less_lt (x := x) (i := i) hd hc
  rw [← hs] at hl
  obtain ⟨s1, s2⟩ := less_step (x := x) (i := i) hd h3 rfl
  rw [← hs] at s1 s2
  have h0 : O.getD i 0 = 0 := by
    rw [← dval_get h2, h4, pow_step, Nat.mul_assoc, Nat.mul_div_cancel_left _ (Nat.two_pow_pos _), Nat.mul_mod_right]
  have e := dval_set O i (s / d) (by omega)
  rw [h0, Nat.mul_zero, Nat.add_zero, h4, pow_step, Nat.mul_assoc, ← Nat.mul_add] at e
  refine ⟨hl, by simp [h1], h2.set _ hl, s1.symm, ?_⟩
  rw [e, s2]
  rw [pow_step]
  congr 1
  omega
end Go.Proofs.YtjlgiejggcbgbaaDoor
end
section
namespace Go.Proofs.YtjlgiejggcbgbaaDoor
open Go.RowKit Go.Shelf
open Go.Sort (grow)

theorem calls_below0 {f : FuncId} {args : Array Value} {w : World} {r : Ending} (h : Calls Tryd.prog f args w fun e w' => e = r ∧ w' = w) : Calls Tryd.prog f args w fun e w' => e = r ∧ Below w.heap.size w w' :=
  h.mono fun _ _ ⟨he, hw⟩ => ⟨he, by rw [hw]; exact Below.refl _ _⟩
end Go.Proofs.YtjlgiejggcbgbaaDoor
end
section
namespace Go.Proofs.YtjlgiejggcbgbaaDoor
open Go.RowKit Go.Shelf

end Go.Proofs.YtjlgiejggcbgbaaDoor
end
section
namespace Go.Proofs.YtjlgiejggcbgbaaDoor
open Go.RowKit Go.Shelf

theorem radd {s t : Value} {x y : Nat} {w : World} (hx : DR w s x) (hy : DR w t y) (lx : (digs x).length ≤ 1000) (ly : (digs y).length ≤ 1000) :
    Calls Tryd.prog 44 #[s, t] w fun e w' => ∃ s', e = .returned s' ∧ DR w' s' (x + y) ∧ Below w.heap.size w w' := by
  obtain ⟨A, ca, rfl, _⟩ := hx.form
  obtain ⟨B, cb, rfl, _⟩ := hy.form
  exact radd_core A B _ ca _ cb x y rfl rfl lx ly w hx hy
theorem rsub {s t : Value} {x y : Nat} {w : World} (hx : DR w s x) (hy : DR w t y) (lx : (digs x).length ≤ 1000) (hyx : y ≤ x) :
    Calls Tryd.prog 45 #[s, t] w fun e w' => ∃ s', e = .returned s' ∧ DR w' s' (x - y) ∧ Below w.heap.size w w' := by
  obtain ⟨A, ca, rfl, _⟩ := hx.form
  obtain ⟨B, cb, rfl, _⟩ := hy.form
  exact rsub_core A B _ ca _ cb x y rfl lx hyx w hx hy
end Go.Proofs.YtjlgiejggcbgbaaDoor
end
section
namespace Go.Proofs.YtjlgiejggcbgbaaDoor
open Go.RowKit Go.Shelf
theorem digs_some {x : Nat} (h : x ≠ 0) : 0 < (digs x).length := by rw [digs_pos h]; simp
theorem ten_new (W : World) (z : Nat) (hz0 : z ≠ 0) (hz : z < 4294967296) (Z : Int) (e : Z = (z : Int)) : DR (W.alloc (.cells #[.int .u32 Z] 64)) (.slice (some ⟨W.heap.size, 0, none⟩) 1 1) z := by
  subst e
  have ed : digs z = [z] := by rw [digs_pos hz0, Nat.mod_eq_of_lt hz, Nat.div_eq_of_lt hz, digs_zero]
  unfold DR
  rw [ed]
  refine .inr ⟨W.heap.size, 0, 1, rfl, ⟨Nat.le_refl 1, by decide⟩, by simp, fun i hi => ?_⟩
  obtain rfl : i = 0 := by simp at hi; omega
  exact cell_of_row _ W.heap.size 0 _ _ _ (heap_alloc_new W _)

end Go.Proofs.YtjlgiejggcbgbaaDoor
end
section
namespace Go.Proofs.YtjlgiejggcbgbaaDoor
open Go.RowKit Go.Shelf
attribute [local go_sem ↓] eql_nat neq_nat eql_int5 neq_int5

theorem digs_of_eight {x : Nat} (h : x < 2 ^ 256) : (digs x).length ≤ 1000 := Nat.le_trans (digs_len.2 (show x < 2 ^ (32 * 8) from h)) (by decide)
theorem rcmp_of {x y : Nat} {c : Int} (hc : rcv x y = c) (lx : (digs x).length ≤ 1000) {s t : Value} {w : World} (hx : DR w s x) (hy : DR w t y) :
    Calls Tryd.prog 41 #[s, t] w fun e w' => e = .returned (.int .i64 c) ∧ Below w.heap.size w w' := by
  have := rcmp hx hy lx
  rw [hc] at this
  exact this
theorem both55 {W : World} {b c : Nat} {v0 v1 v2 v3 v4 u0 u1 u2 u3 u4 : Value} (h : Row5 W b v0 v1 v2 v3 v4) (k : Row5 W c u0 u1 u2 u3 u4) :
    W.cell? ⟨b, 0, none⟩ = some v0 ∧ W.cell? ⟨b, 1, none⟩ = some v1 ∧ W.cell? ⟨b, 2, none⟩ = some v2 ∧ W.cell? ⟨b, 3, none⟩ = some v3 ∧ W.cell? ⟨b, 4, none⟩ = some v4 ∧ W.cell? ⟨c, 0, none⟩ = some u0 ∧ W.cell? ⟨c, 1, none⟩ = some u1 ∧ W.cell? ⟨c, 2, none⟩ = some u2 ∧ W.cell? ⟨c, 3, none⟩ = some u3 ∧ W.cell? ⟨c, 4, none⟩ = some u4 :=
  ⟨h.parts.1, h.parts.2.1, h.parts.2.2.1, h.parts.2.2.2.1, h.parts.2.2.2.2, k.parts⟩
set_option maxHeartbeats 1000000 in
set_option maxRecDepth 100000 in
theorem rcmpint_tf (x y : Nat)  (w : World) :
    Calls Tryd.prog 26 #[I5 true x, I5 false y] w fun e w' => e = .returned (.int .i64 (-1)) ∧ Below w.heap.size w w' := by
  unfold I5
  go_enter Tryd.func26, Tryd.ntmps26
  go_wp2
  go_ret
  exact ⟨rfl, by repeat (first | (with_reducible exact Below.refl _ _) | (with_reducible refine bal ?_ _) | (with_reducible refine Below.drew ?_) | (with_reducible refine bdn ?_ _))⟩
set_option maxHeartbeats 1000000 in
set_option maxRecDepth 100000 in
theorem rcmpint_ft (x y : Nat)  (w : World) :
    Calls Tryd.prog 26 #[I5 false x, I5 true y] w fun e w' => e = .returned (.int .i64 1) ∧ Below w.heap.size w w' := by
  unfold I5
  go_enter Tryd.func26, Tryd.ntmps26
  go_wp2
  go_ret
  exact ⟨rfl, by repeat (first | (with_reducible exact Below.refl _ _) | (with_reducible refine bal ?_ _) | (with_reducible refine Below.drew ?_) | (with_reducible refine bdn ?_ _))⟩
set_option maxHeartbeats 1000000 in
set_option maxRecDepth 100000 in
theorem rcmpint_ff (x y : Nat) (hx : x < 2 ^ 256) (hy : y < 2 ^ 256) (c : Int) (hc : rcv x y = c) (w : World) :
    Calls Tryd.prog 26 #[I5 false x, I5 false y] w fun e w' => e = .returned (.int .i64 c) ∧ Below w.heap.size w w' := by
  unfold I5
  have L1 := Lib.hid (digs_of_eight hx)
  have HX := Lib.hid hx; have HY := Lib.hid hy; have HC := Lib.hid hc; clear hx hy hc
  go_enter Tryd.func26, Tryd.ntmps26
  go_upto_region 5 with (fail)
  go_name_world w1 hw1
  have BW1 : Below w.heap.size w w1 := by rw [← hw1]; repeat (first | (with_reducible exact Below.refl _ _) | (with_reducible refine bal ?_ _) | (with_reducible refine Below.drew ?_) | (with_reducible refine bdn ?_ _))
  have X1 : Row5 w1 w.heap.size (.bool false) (.int .u64 (lb 0 x)) (.int .u64 (lb 1 x)) (.int .u64 (lb 2 x)) (.int .u64 (lb 3 x)) := by rw [← hw1]; exact (by repeat (first | (with_reducible exact Row5.new _ _ _ _ _ _) | ((with_reducible refine Row5.new' _ ?_ _ _ _ _ _); (simp; done)) | (with_reducible refine Row5.alloc ?_ _) | (with_reducible refine Row5.drew ?_)))
  have Y1 : Row5 w1 (w.heap.size + 1) (.bool false) (.int .u64 (lb 0 y)) (.int .u64 (lb 1 y)) (.int .u64 (lb 2 y)) (.int .u64 (lb 3 y)) := by rw [← hw1]; exact (by repeat (first | (with_reducible exact Row5.new _ _ _ _ _ _) | ((with_reducible refine Row5.new' _ ?_ _ _ _ _ _); (simp; done)) | (with_reducible refine Row5.alloc ?_ _) | (with_reducible refine Row5.drew ?_)))
  clear hw1
  have lt_X := X1.lt
  have lt_Y := Y1.lt
  go_region_held3 (fun w' => w'.cell? ⟨w.heap.size, 0, none⟩ = some (.bool false) ∧ w'.cell? ⟨w.heap.size, 1, none⟩ = some (.int .u64 (lb 0 x)) ∧ w'.cell? ⟨w.heap.size, 2, none⟩ = some (.int .u64 (lb 1 x)) ∧ w'.cell? ⟨w.heap.size, 3, none⟩ = some (.int .u64 (lb 2 x)) ∧ w'.cell? ⟨w.heap.size, 4, none⟩ = some (.int .u64 (lb 3 x)) ∧ w'.cell? ⟨(w.heap.size + 1), 0, none⟩ = some (.bool false) ∧ w'.cell? ⟨(w.heap.size + 1), 1, none⟩ = some (.int .u64 (lb 0 y)) ∧ w'.cell? ⟨(w.heap.size + 1), 2, none⟩ = some (.int .u64 (lb 1 y)) ∧ w'.cell? ⟨(w.heap.size + 1), 3, none⟩ = some (.int .u64 (lb 2 y)) ∧ w'.cell? ⟨(w.heap.size + 1), 4, none⟩ = some (.int .u64 (lb 3 y)))
    ((refine both55 ?_ ?_; (focus (repeat (first | (with_reducible assumption) | (with_reducible refine Row5.alloc ?_ _) | (with_reducible refine Row5.drew ?_) | (with_reducible refine Row5.drewN ?_ _)))); (focus (repeat (first | (with_reducible assumption) | (with_reducible refine Row5.alloc ?_ _) | (with_reducible refine Row5.drew ?_) | (with_reducible refine Row5.drewN ?_ _)))); done))
    (first | (go_at_call 42; (with_reducible refine (rof x HX.out _).mono ?_); rintro e wf1_1 ⟨s1, rfl, hr1_1, hb1_1⟩; have hx1_1 : Below w1.heap.size w1 wf1_1 := btr (by repeat (first | (with_reducible exact Below.refl _ _) | (with_reducible refine bal ?_ _) | (with_reducible refine Below.drew ?_) | (with_reducible refine bdn ?_ _))) hb1_1; have Xf1 : Row5 wf1_1 w.heap.size (.bool false) (.int .u64 (lb 0 x)) (.int .u64 (lb 1 x)) (.int .u64 (lb 2 x)) (.int .u64 (lb 3 x)) := Row5.keep hb1_1 (by repeat (first | (with_reducible assumption) | (with_reducible refine Row5.alloc ?_ _) | (with_reducible refine Row5.drew ?_) | (with_reducible refine Row5.drewN ?_ _))); have Yf1 : Row5 wf1_1 (w.heap.size + 1) (.bool false) (.int .u64 (lb 0 y)) (.int .u64 (lb 1 y)) (.int .u64 (lb 2 y)) (.int .u64 (lb 3 y)) := Row5.keep hb1_1 (by repeat (first | (with_reducible assumption) | (with_reducible refine Row5.alloc ?_ _) | (with_reducible refine Row5.drew ?_) | (with_reducible refine Row5.drewN ?_ _)))) | (go_at_call 42; (with_reducible refine (rof y HY.out _).mono ?_); rintro e wf1_2 ⟨s2, rfl, hr1_2, hb1_2⟩; have hx1_2 : Below wf1_1.heap.size wf1_1 wf1_2 := btr (by repeat (first | (with_reducible exact Below.refl _ _) | (with_reducible refine bal ?_ _) | (with_reducible refine Below.drew ?_) | (with_reducible refine bdn ?_ _))) hb1_2; have Xf2 : Row5 wf1_2 w.heap.size (.bool false) (.int .u64 (lb 0 x)) (.int .u64 (lb 1 x)) (.int .u64 (lb 2 x)) (.int .u64 (lb 3 x)) := Row5.keep hb1_2 (by repeat (first | (with_reducible assumption) | (with_reducible refine Row5.alloc ?_ _) | (with_reducible refine Row5.drew ?_) | (with_reducible refine Row5.drewN ?_ _))); have Yf2 : Row5 wf1_2 (w.heap.size + 1) (.bool false) (.int .u64 (lb 0 y)) (.int .u64 (lb 1 y)) (.int .u64 (lb 2 y)) (.int .u64 (lb 3 y)) := Row5.keep hb1_2 (by repeat (first | (with_reducible assumption) | (with_reducible refine Row5.alloc ?_ _) | (with_reducible refine Row5.drew ?_) | (with_reducible refine Row5.drewN ?_ _))); have DXf1_2 : DR wf1_2 s1 x := DR.keep hx1_2 hr1_1) | (go_at_call 41; (with_reducible refine (rcmp_of HC.out L1.out (DR.keep (by repeat (first | (with_reducible exact Below.refl _ _) | (with_reducible refine bal ?_ _) | (with_reducible refine Below.drew ?_) | (with_reducible refine bdn ?_ _))) DXf1_2) (DR.keep (by repeat (first | (with_reducible exact Below.refl _ _) | (with_reducible refine bal ?_ _) | (with_reducible refine Below.drew ?_) | (with_reducible refine bdn ?_ _))) hr1_2)).mono ?_); rintro e wf1_3 ⟨rfl, hb1_3⟩; have hx1_3 : Below wf1_2.heap.size wf1_2 wf1_3 := btr (by repeat (first | (with_reducible exact Below.refl _ _) | (with_reducible refine bal ?_ _) | (with_reducible refine Below.drew ?_) | (with_reducible refine bdn ?_ _))) hb1_3; have Xf3 : Row5 wf1_3 w.heap.size (.bool false) (.int .u64 (lb 0 x)) (.int .u64 (lb 1 x)) (.int .u64 (lb 2 x)) (.int .u64 (lb 3 x)) := Row5.keep hb1_3 (by repeat (first | (with_reducible assumption) | (with_reducible refine Row5.alloc ?_ _) | (with_reducible refine Row5.drew ?_) | (with_reducible refine Row5.drewN ?_ _))); have Yf3 : Row5 wf1_3 (w.heap.size + 1) (.bool false) (.int .u64 (lb 0 y)) (.int .u64 (lb 1 y)) (.int .u64 (lb 2 y)) (.int .u64 (lb 3 y)) := Row5.keep hb1_3 (by repeat (first | (with_reducible assumption) | (with_reducible refine Row5.alloc ?_ _) | (with_reducible refine Row5.drew ?_) | (with_reducible refine Row5.drewN ?_ _))); have DXf1_3 : DR wf1_3 s1 x := DR.keep hx1_3 DXf1_2; have DYf1_3 : DR wf1_3 s2 y := DR.keep hx1_3 hr1_2))
  have BW2 : Below w.heap.size w wf1_1 := btr (by repeat (first | (with_reducible exact BW1) | (with_reducible refine bal ?_ _) | (with_reducible refine Below.drew ?_) | (with_reducible refine bdn ?_ _))) hb1_1
  have X2 : Row5 wf1_1 w.heap.size (.bool false) (.int .u64 (lb 0 x)) (.int .u64 (lb 1 x)) (.int .u64 (lb 2 x)) (.int .u64 (lb 3 x)) := Row5.keep hb1_1 (by repeat (first | (with_reducible exact X1) | (with_reducible refine Row5.alloc ?_ _) | (with_reducible refine Row5.drew ?_)))
  have Y2 : Row5 wf1_1 (w.heap.size + 1) (.bool false) (.int .u64 (lb 0 y)) (.int .u64 (lb 1 y)) (.int .u64 (lb 2 y)) (.int .u64 (lb 3 y)) := Row5.keep hb1_1 (by repeat (first | (with_reducible exact Y1) | (with_reducible refine Row5.alloc ?_ _) | (with_reducible refine Row5.drew ?_)))
  clear X1 Y1 Xf1 Yf1 BW1
  have BW3 : Below w.heap.size w wf1_2 := btr (by repeat (first | (with_reducible exact BW2) | (with_reducible refine bal ?_ _) | (with_reducible refine Below.drew ?_) | (with_reducible refine bdn ?_ _))) hb1_2
  have X3 : Row5 wf1_2 w.heap.size (.bool false) (.int .u64 (lb 0 x)) (.int .u64 (lb 1 x)) (.int .u64 (lb 2 x)) (.int .u64 (lb 3 x)) := Row5.keep hb1_2 (by repeat (first | (with_reducible exact X2) | (with_reducible refine Row5.alloc ?_ _) | (with_reducible refine Row5.drew ?_)))
  have Y3 : Row5 wf1_2 (w.heap.size + 1) (.bool false) (.int .u64 (lb 0 y)) (.int .u64 (lb 1 y)) (.int .u64 (lb 2 y)) (.int .u64 (lb 3 y)) := Row5.keep hb1_2 (by repeat (first | (with_reducible exact Y2) | (with_reducible refine Row5.alloc ?_ _) | (with_reducible refine Row5.drew ?_)))
  clear X2 Y2 Xf2 Yf2 BW2
  have BW4 : Below w.heap.size w wf1_3 := btr (by repeat (first | (with_reducible exact BW3) | (with_reducible refine bal ?_ _) | (with_reducible refine Below.drew ?_) | (with_reducible refine bdn ?_ _))) hb1_3
  have X4 : Row5 wf1_3 w.heap.size (.bool false) (.int .u64 (lb 0 x)) (.int .u64 (lb 1 x)) (.int .u64 (lb 2 x)) (.int .u64 (lb 3 x)) := Row5.keep hb1_3 (by repeat (first | (with_reducible exact X3) | (with_reducible refine Row5.alloc ?_ _) | (with_reducible refine Row5.drew ?_)))
  have Y4 : Row5 wf1_3 (w.heap.size + 1) (.bool false) (.int .u64 (lb 0 y)) (.int .u64 (lb 1 y)) (.int .u64 (lb 2 y)) (.int .u64 (lb 3 y)) := Row5.keep hb1_3 (by repeat (first | (with_reducible exact Y3) | (with_reducible refine Row5.alloc ?_ _) | (with_reducible refine Row5.drew ?_)))
  clear X3 Y3 Xf3 Yf3 BW3
  have DX4 : DR wf1_3 s1 x := DXf1_3
  have DY4 : DR wf1_3 s2 y := DYf1_3
  clear hb1_1 hx1_1
  clear hb1_2 hx1_2
  clear hb1_3 hx1_3
  try clear DXf1_1
  try clear DYf1_1
  try clear DXf1_2
  try clear DYf1_2
  try clear DXf1_3
  try clear DYf1_3
  try clear hr1_1
  try clear hr1_2
  obtain ⟨Xc0, Xc1, Xc2, Xc3, Xc4⟩ := X4.parts
  obtain ⟨Xf0, Xf1, Xf2, Xf3, Xf4⟩ := X4.free
  go_wp2
  go_ret
  exact ⟨rfl, BW4⟩
set_option maxHeartbeats 1000000 in
set_option maxRecDepth 100000 in
theorem rcmpint_tt (x y : Nat) (hx : x < 2 ^ 256) (hy : y < 2 ^ 256) (c d : Int) (hc : rcv x y = c) (hd : IntKind.i64.wrap (-c) = d) (w : World) :
    Calls Tryd.prog 26 #[I5 true x, I5 true y] w fun e w' => e = .returned (.int .i64 d) ∧ Below w.heap.size w w' := by
  unfold I5
  have L1 := Lib.hid (digs_of_eight hx)
  have HX := Lib.hid hx; have HY := Lib.hid hy; have HC := Lib.hid hc; clear hx hy hc
  go_enter Tryd.func26, Tryd.ntmps26
  go_upto_region 5 with (fail)
  go_name_world w1 hw1
  have BW1 : Below w.heap.size w w1 := by rw [← hw1]; repeat (first | (with_reducible exact Below.refl _ _) | (with_reducible refine bal ?_ _) | (with_reducible refine Below.drew ?_) | (with_reducible refine bdn ?_ _))
  have X1 : Row5 w1 w.heap.size (.bool true) (.int .u64 (lb 0 x)) (.int .u64 (lb 1 x)) (.int .u64 (lb 2 x)) (.int .u64 (lb 3 x)) := by rw [← hw1]; exact (by repeat (first | (with_reducible exact Row5.new _ _ _ _ _ _) | ((with_reducible refine Row5.new' _ ?_ _ _ _ _ _); (simp; done)) | (with_reducible refine Row5.alloc ?_ _) | (with_reducible refine Row5.drew ?_)))
  have Y1 : Row5 w1 (w.heap.size + 1) (.bool true) (.int .u64 (lb 0 y)) (.int .u64 (lb 1 y)) (.int .u64 (lb 2 y)) (.int .u64 (lb 3 y)) := by rw [← hw1]; exact (by repeat (first | (with_reducible exact Row5.new _ _ _ _ _ _) | ((with_reducible refine Row5.new' _ ?_ _ _ _ _ _); (simp; done)) | (with_reducible refine Row5.alloc ?_ _) | (with_reducible refine Row5.drew ?_)))
  clear hw1
  have lt_X := X1.lt
  have lt_Y := Y1.lt
  go_region_held3 (fun w' => w'.cell? ⟨w.heap.size, 0, none⟩ = some (.bool true) ∧ w'.cell? ⟨w.heap.size, 1, none⟩ = some (.int .u64 (lb 0 x)) ∧ w'.cell? ⟨w.heap.size, 2, none⟩ = some (.int .u64 (lb 1 x)) ∧ w'.cell? ⟨w.heap.size, 3, none⟩ = some (.int .u64 (lb 2 x)) ∧ w'.cell? ⟨w.heap.size, 4, none⟩ = some (.int .u64 (lb 3 x)) ∧ w'.cell? ⟨(w.heap.size + 1), 0, none⟩ = some (.bool true) ∧ w'.cell? ⟨(w.heap.size + 1), 1, none⟩ = some (.int .u64 (lb 0 y)) ∧ w'.cell? ⟨(w.heap.size + 1), 2, none⟩ = some (.int .u64 (lb 1 y)) ∧ w'.cell? ⟨(w.heap.size + 1), 3, none⟩ = some (.int .u64 (lb 2 y)) ∧ w'.cell? ⟨(w.heap.size + 1), 4, none⟩ = some (.int .u64 (lb 3 y)))
    ((refine both55 ?_ ?_; (focus (repeat (first | (with_reducible assumption) | (with_reducible refine Row5.alloc ?_ _) | (with_reducible refine Row5.drew ?_) | (with_reducible refine Row5.drewN ?_ _)))); (focus (repeat (first | (with_reducible assumption) | (with_reducible refine Row5.alloc ?_ _) | (with_reducible refine Row5.drew ?_) | (with_reducible refine Row5.drewN ?_ _)))); done))
    (first | (go_at_call 42; (with_reducible refine (rof x HX.out _).mono ?_); rintro e wf1_1 ⟨s1, rfl, hr1_1, hb1_1⟩; have hx1_1 : Below w1.heap.size w1 wf1_1 := btr (by repeat (first | (with_reducible exact Below.refl _ _) | (with_reducible refine bal ?_ _) | (with_reducible refine Below.drew ?_) | (with_reducible refine bdn ?_ _))) hb1_1; have Xf1 : Row5 wf1_1 w.heap.size (.bool true) (.int .u64 (lb 0 x)) (.int .u64 (lb 1 x)) (.int .u64 (lb 2 x)) (.int .u64 (lb 3 x)) := Row5.keep hb1_1 (by repeat (first | (with_reducible assumption) | (with_reducible refine Row5.alloc ?_ _) | (with_reducible refine Row5.drew ?_) | (with_reducible refine Row5.drewN ?_ _))); have Yf1 : Row5 wf1_1 (w.heap.size + 1) (.bool true) (.int .u64 (lb 0 y)) (.int .u64 (lb 1 y)) (.int .u64 (lb 2 y)) (.int .u64 (lb 3 y)) := Row5.keep hb1_1 (by repeat (first | (with_reducible assumption) | (with_reducible refine Row5.alloc ?_ _) | (with_reducible refine Row5.drew ?_) | (with_reducible refine Row5.drewN ?_ _)))) | (go_at_call 42; (with_reducible refine (rof y HY.out _).mono ?_); rintro e wf1_2 ⟨s2, rfl, hr1_2, hb1_2⟩; have hx1_2 : Below wf1_1.heap.size wf1_1 wf1_2 := btr (by repeat (first | (with_reducible exact Below.refl _ _) | (with_reducible refine bal ?_ _) | (with_reducible refine Below.drew ?_) | (with_reducible refine bdn ?_ _))) hb1_2; have Xf2 : Row5 wf1_2 w.heap.size (.bool true) (.int .u64 (lb 0 x)) (.int .u64 (lb 1 x)) (.int .u64 (lb 2 x)) (.int .u64 (lb 3 x)) := Row5.keep hb1_2 (by repeat (first | (with_reducible assumption) | (with_reducible refine Row5.alloc ?_ _) | (with_reducible refine Row5.drew ?_) | (with_reducible refine Row5.drewN ?_ _))); have Yf2 : Row5 wf1_2 (w.heap.size + 1) (.bool true) (.int .u64 (lb 0 y)) (.int .u64 (lb 1 y)) (.int .u64 (lb 2 y)) (.int .u64 (lb 3 y)) := Row5.keep hb1_2 (by repeat (first | (with_reducible assumption) | (with_reducible refine Row5.alloc ?_ _) | (with_reducible refine Row5.drew ?_) | (with_reducible refine Row5.drewN ?_ _))); have DXf1_2 : DR wf1_2 s1 x := DR.keep hx1_2 hr1_1) | (go_at_call 41; (with_reducible refine (rcmp_of HC.out L1.out (DR.keep (by repeat (first | (with_reducible exact Below.refl _ _) | (with_reducible refine bal ?_ _) | (with_reducible refine Below.drew ?_) | (with_reducible refine bdn ?_ _))) DXf1_2) (DR.keep (by repeat (first | (with_reducible exact Below.refl _ _) | (with_reducible refine bal ?_ _) | (with_reducible refine Below.drew ?_) | (with_reducible refine bdn ?_ _))) hr1_2)).mono ?_); rintro e wf1_3 ⟨rfl, hb1_3⟩; have hx1_3 : Below wf1_2.heap.size wf1_2 wf1_3 := btr (by repeat (first | (with_reducible exact Below.refl _ _) | (with_reducible refine bal ?_ _) | (with_reducible refine Below.drew ?_) | (with_reducible refine bdn ?_ _))) hb1_3; have Xf3 : Row5 wf1_3 w.heap.size (.bool true) (.int .u64 (lb 0 x)) (.int .u64 (lb 1 x)) (.int .u64 (lb 2 x)) (.int .u64 (lb 3 x)) := Row5.keep hb1_3 (by repeat (first | (with_reducible assumption) | (with_reducible refine Row5.alloc ?_ _) | (with_reducible refine Row5.drew ?_) | (with_reducible refine Row5.drewN ?_ _))); have Yf3 : Row5 wf1_3 (w.heap.size + 1) (.bool true) (.int .u64 (lb 0 y)) (.int .u64 (lb 1 y)) (.int .u64 (lb 2 y)) (.int .u64 (lb 3 y)) := Row5.keep hb1_3 (by repeat (first | (with_reducible assumption) | (with_reducible refine Row5.alloc ?_ _) | (with_reducible refine Row5.drew ?_) | (with_reducible refine Row5.drewN ?_ _))); have DXf1_3 : DR wf1_3 s1 x := DR.keep hx1_3 DXf1_2; have DYf1_3 : DR wf1_3 s2 y := DR.keep hx1_3 hr1_2))
  have BW2 : Below w.heap.size w wf1_1 := btr (by repeat (first | (with_reducible exact BW1) | (with_reducible refine bal ?_ _) | (with_reducible refine Below.drew ?_) | (with_reducible refine bdn ?_ _))) hb1_1
  have X2 : Row5 wf1_1 w.heap.size (.bool true) (.int .u64 (lb 0 x)) (.int .u64 (lb 1 x)) (.int .u64 (lb 2 x)) (.int .u64 (lb 3 x)) := Row5.keep hb1_1 (by repeat (first | (with_reducible exact X1) | (with_reducible refine Row5.alloc ?_ _) | (with_reducible refine Row5.drew ?_)))
  have Y2 : Row5 wf1_1 (w.heap.size + 1) (.bool true) (.int .u64 (lb 0 y)) (.int .u64 (lb 1 y)) (.int .u64 (lb 2 y)) (.int .u64 (lb 3 y)) := Row5.keep hb1_1 (by repeat (first | (with_reducible exact Y1) | (with_reducible refine Row5.alloc ?_ _) | (with_reducible refine Row5.drew ?_)))
  clear X1 Y1 Xf1 Yf1 BW1
  have BW3 : Below w.heap.size w wf1_2 := btr (by repeat (first | (with_reducible exact BW2) | (with_reducible refine bal ?_ _) | (with_reducible refine Below.drew ?_) | (with_reducible refine bdn ?_ _))) hb1_2
  have X3 : Row5 wf1_2 w.heap.size (.bool true) (.int .u64 (lb 0 x)) (.int .u64 (lb 1 x)) (.int .u64 (lb 2 x)) (.int .u64 (lb 3 x)) := Row5.keep hb1_2 (by repeat (first | (with_reducible exact X2) | (with_reducible refine Row5.alloc ?_ _) | (with_reducible refine Row5.drew ?_)))
  have Y3 : Row5 wf1_2 (w.heap.size + 1) (.bool true) (.int .u64 (lb 0 y)) (.int .u64 (lb 1 y)) (.int .u64 (lb 2 y)) (.int .u64 (lb 3 y)) := Row5.keep hb1_2 (by repeat (first | (with_reducible exact Y2) | (with_reducible refine Row5.alloc ?_ _) | (with_reducible refine Row5.drew ?_)))
  clear X2 Y2 Xf2 Yf2 BW2
  have BW4 : Below w.heap.size w wf1_3 := btr (by repeat (first | (with_reducible exact BW3) | (with_reducible refine bal ?_ _) | (with_reducible refine Below.drew ?_) | (with_reducible refine bdn ?_ _))) hb1_3
  have X4 : Row5 wf1_3 w.heap.size (.bool true) (.int .u64 (lb 0 x)) (.int .u64 (lb 1 x)) (.int .u64 (lb 2 x)) (.int .u64 (lb 3 x)) := Row5.keep hb1_3 (by repeat (first | (with_reducible exact X3) | (with_reducible refine Row5.alloc ?_ _) | (with_reducible refine Row5.drew ?_)))
  have Y4 : Row5 wf1_3 (w.heap.size + 1) (.bool true) (.int .u64 (lb 0 y)) (.int .u64 (lb 1 y)) (.int .u64 (lb 2 y)) (.int .u64 (lb 3 y)) := Row5.keep hb1_3 (by repeat (first | (with_reducible exact Y3) | (with_reducible refine Row5.alloc ?_ _) | (with_reducible refine Row5.drew ?_)))
  clear X3 Y3 Xf3 Yf3 BW3
  have DX4 : DR wf1_3 s1 x := DXf1_3
  have DY4 : DR wf1_3 s2 y := DYf1_3
  clear hb1_1 hx1_1
  clear hb1_2 hx1_2
  clear hb1_3 hx1_3
  try clear DXf1_1
  try clear DYf1_1
  try clear DXf1_2
  try clear DYf1_2
  try clear DXf1_3
  try clear DYf1_3
  try clear hr1_1
  try clear hr1_2
  obtain ⟨Xc0, Xc1, Xc2, Xc3, Xc4⟩ := X4.parts
  obtain ⟨Xf0, Xf1, Xf2, Xf3, Xf4⟩ := X4.free
  go_wp2
  go_ret
  exact ⟨rfl, BW4⟩
set_option maxHeartbeats 2000000 in
set_option maxRecDepth 100000 in
theorem rstep_bad (g up : Bool) (x : Nat) (hx : x < 2 ^ 256) (w : World)
    (m1 : ∀ W, Calls Tryd.prog 24 #[I5 g x] W fun e w' => e = .returned (.bool false) ∧ Below W.heap.size W w') :
    Calls Tryd.prog 27 #[I5 g x, .bool up] w fun e w' => e = .returned (.tuple #[.agg #[.bool false, .int .u64 0, .int .u64 0, .int .u64 0, .int .u64 0], .bool false]) ∧ Below w.heap.size w w' := by
  unfold I5 at *
  have M1 := Lib.hid m1; have HX := Lib.hid hx; clear m1 hx
  go_enter Tryd.func27, Tryd.ntmps27
  go_wp2_with fail
  refine (M1.out _).mono ?_
  rintro e w1 ⟨rfl, hb⟩
  have BW1 : Below w.heap.size w w1 := btr (by repeat (first | (with_reducible exact Below.refl _ _) | (with_reducible refine bal ?_ _) | (with_reducible refine Below.drew ?_) | (with_reducible refine bdn ?_ _))) hb
  have X1 : Row5 w1 w.heap.size (.bool g) (.int .u64 (lb 0 x)) (.int .u64 (lb 1 x)) (.int .u64 (lb 2 x)) (.int .u64 (lb 3 x)) := Row5.keep hb (by repeat (first | (with_reducible exact Row5.new _ _ _ _ _ _) | ((with_reducible refine Row5.new' _ ?_ _ _ _ _ _); (simp; done)) | (with_reducible refine Row5.alloc ?_ _) | (with_reducible refine Row5.drew ?_)))
  have R1 : Row5 w1 (w.heap.size + 1) (.bool false) (.int .u64 0) (.int .u64 0) (.int .u64 0) (.int .u64 0) := Row5.keep hb (by repeat (first | (with_reducible exact Row5.new _ _ _ _ _ _) | ((with_reducible refine Row5.new' _ ?_ _ _ _ _ _); (simp; done)) | (with_reducible refine Row5.alloc ?_ _) | (with_reducible refine Row5.drew ?_)))
  clear hb
  obtain ⟨Rc0, Rc1, Rc2, Rc3, Rc4⟩ := R1.parts
  obtain ⟨Rf0, Rf1, Rf2, Rf3, Rf4⟩ := R1.free
  have lt_R := R1.lt
  go_wp2
  exact bodyPost_ret (v := .tuple #[.agg #[.bool false, .int .u64 0, .int .u64 0, .int .u64 0, .int .u64 0], .bool false]) (by simp [results, Tryd.results27, go_sem, Rc0, Rc1, Rc2, Rc3, Rc4]) rfl ⟨rfl, by repeat (first | (with_reducible exact BW1) | (with_reducible refine bal ?_ _) | (with_reducible refine Below.drew ?_) | (with_reducible refine bdn ?_ _) | ((with_reducible refine bsc ?_ ?_ _); rotate_left; (focus (simp only []; omega))))⟩
set_option maxHeartbeats 2000000 in
set_option maxRecDepth 100000 in
theorem rstep_zero (g up : Bool) (x : Nat) (hx : x < 2 ^ 256) (hz : (((digs x).length : Int) == 0) = true) (h : Bool) (y0 y1 y2 y3 : Int) (b : Bool) (kw : ∀ s' W, DR W s' 1 → Calls Tryd.prog 43 #[.bool (!up), s'] W fun e w' => e = .returned (.tuple #[.agg #[.bool h, .int .u64 y0, .int .u64 y1, .int .u64 y2, .int .u64 y3], .bool b]) ∧ Below W.heap.size W w') (w : World)
    (m1 : ∀ W, Calls Tryd.prog 24 #[I5 g x] W fun e w' => e = .returned (.bool true) ∧ Below W.heap.size W w') :
    Calls Tryd.prog 27 #[I5 g x, .bool up] w fun e w' => e = .returned (.tuple #[.agg #[.bool h, .int .u64 y0, .int .u64 y1, .int .u64 y2, .int .u64 y3], .bool b]) ∧ Below w.heap.size w w' := by
  unfold I5 at *
  have M1 := Lib.hid m1; have HX := Lib.hid hx; clear m1 hx
  have KW := Lib.hid kw; clear kw
  go_enter Tryd.func27, Tryd.ntmps27
  go_wp2_with fail
  refine (M1.out _).mono ?_
  rintro e w1 ⟨rfl, hb⟩
  have BW1 : Below w.heap.size w w1 := btr (by repeat (first | (with_reducible exact Below.refl _ _) | (with_reducible refine bal ?_ _) | (with_reducible refine Below.drew ?_) | (with_reducible refine bdn ?_ _))) hb
  have X1 : Row5 w1 w.heap.size (.bool g) (.int .u64 (lb 0 x)) (.int .u64 (lb 1 x)) (.int .u64 (lb 2 x)) (.int .u64 (lb 3 x)) := Row5.keep hb (by repeat (first | (with_reducible exact Row5.new _ _ _ _ _ _) | ((with_reducible refine Row5.new' _ ?_ _ _ _ _ _); (simp; done)) | (with_reducible refine Row5.alloc ?_ _) | (with_reducible refine Row5.drew ?_)))
  have R1 : Row5 w1 (w.heap.size + 1) (.bool false) (.int .u64 0) (.int .u64 0) (.int .u64 0) (.int .u64 0) := Row5.keep hb (by repeat (first | (with_reducible exact Row5.new _ _ _ _ _ _) | ((with_reducible refine Row5.new' _ ?_ _ _ _ _ _); (simp; done)) | (with_reducible refine Row5.alloc ?_ _) | (with_reducible refine Row5.drew ?_)))
  clear hb
  obtain ⟨Xc0, Xc1, Xc2, Xc3, Xc4⟩ := X1.parts
  obtain ⟨Xf0, Xf1, Xf2, Xf3, Xf4⟩ := X1.free
  go_wp2_with fail
  refine (rof x HX.out _).mono ?_
  rintro e w2 ⟨s1, rfl, hr, hb⟩
  have hbX : Below w1.heap.size w1 w2 := btr (by repeat (first | (with_reducible exact Below.refl _ _) | (with_reducible refine bal ?_ _) | (with_reducible refine Below.drew ?_) | (with_reducible refine bdn ?_ _))) hb
  clear hbX
  have DX2 : DR w2 s1 x := hr
  clear hr
  have BW2 : Below w.heap.size w w2 := btr (by repeat (first | (with_reducible exact BW1) | (with_reducible refine bal ?_ _) | (with_reducible refine Below.drew ?_) | (with_reducible refine bdn ?_ _))) hb
  have X2 : Row5 w2 w.heap.size (.bool g) (.int .u64 (lb 0 x)) (.int .u64 (lb 1 x)) (.int .u64 (lb 2 x)) (.int .u64 (lb 3 x)) := Row5.keep hb (by repeat (first | (with_reducible exact X1) | (with_reducible refine Row5.alloc ?_ _) | (with_reducible refine Row5.drew ?_)))
  have R2 : Row5 w2 (w.heap.size + 1) (.bool false) (.int .u64 0) (.int .u64 0) (.int .u64 0) (.int .u64 0) := Row5.keep hb (by repeat (first | (with_reducible exact R1) | (with_reducible refine Row5.alloc ?_ _) | (with_reducible refine Row5.drew ?_)))
  clear X1 R1
  clear BW1
  clear hb
  obtain ⟨A9, c9, rfl, _⟩ := DX2.form
  go_wp2_with fail
  refine (KW.out _ _ (DR.keep (by repeat (first | (with_reducible exact Below.refl _ _) | (with_reducible refine bal ?_ _) | (with_reducible refine Below.drew ?_) | (with_reducible refine bdn ?_ _))) (ten_new w2 1 (by decide) (by decide) 1 rfl))).mono ?_
  rintro e w3 ⟨rfl, hb⟩
  have hbX : Below w2.heap.size w2 w3 := btr (by repeat (first | (with_reducible exact Below.refl _ _) | (with_reducible refine bal ?_ _) | (with_reducible refine Below.drew ?_) | (with_reducible refine bdn ?_ _))) hb
  have DX3 : DR w3 (.slice A9 (digs x).length c9) x := DR.keep hbX DX2
  clear DX2
  clear hbX
  have BW3 : Below w.heap.size w w3 := btr (by repeat (first | (with_reducible exact BW2) | (with_reducible refine bal ?_ _) | (with_reducible refine Below.drew ?_) | (with_reducible refine bdn ?_ _))) hb
  have X3 : Row5 w3 w.heap.size (.bool g) (.int .u64 (lb 0 x)) (.int .u64 (lb 1 x)) (.int .u64 (lb 2 x)) (.int .u64 (lb 3 x)) := Row5.keep hb (by repeat (first | (with_reducible exact X2) | (with_reducible refine Row5.alloc ?_ _) | (with_reducible refine Row5.drew ?_)))
  have R3 : Row5 w3 (w.heap.size + 1) (.bool false) (.int .u64 0) (.int .u64 0) (.int .u64 0) (.int .u64 0) := Row5.keep hb (by repeat (first | (with_reducible exact R2) | (with_reducible refine Row5.alloc ?_ _) | (with_reducible refine Row5.drew ?_)))
  clear X2 R2
  clear BW2
  clear hb
  obtain ⟨Rc0, Rc1, Rc2, Rc3, Rc4⟩ := R3.parts
  obtain ⟨Rf0, Rf1, Rf2, Rf3, Rf4⟩ := R3.free
  have lt_R := R3.lt
  go_wp2
  exact bodyPost_ret (v := .tuple #[.agg #[.bool h, .int .u64 y0, .int .u64 y1, .int .u64 y2, .int .u64 y3], .bool b]) (by simp [results, Tryd.results27, go_sem, Rc0, Rc1, Rc2, Rc3, Rc4]) rfl ⟨rfl, by repeat (first | (with_reducible exact BW3) | (with_reducible refine bal ?_ _) | (with_reducible refine Below.drew ?_) | (with_reducible refine bdn ?_ _) | ((with_reducible refine bsc ?_ ?_ _); rotate_left; (focus (simp only []; omega))))⟩
set_option maxHeartbeats 2000000 in
set_option maxRecDepth 100000 in
theorem rstep_grow_false (x : Nat) (hx : x < 2 ^ 256) (hz : (((digs x).length : Int) == 0) = false) (h : Bool) (y0 y1 y2 y3 : Int) (b : Bool) (kw : ∀ s' W, DR W s' (x + 1) → Calls Tryd.prog 43 #[.bool false, s'] W fun e w' => e = .returned (.tuple #[.agg #[.bool h, .int .u64 y0, .int .u64 y1, .int .u64 y2, .int .u64 y3], .bool b]) ∧ Below W.heap.size W w') (w : World)
    (m1 : ∀ W, Calls Tryd.prog 24 #[I5 false x] W fun e w' => e = .returned (.bool true) ∧ Below W.heap.size W w') :
    Calls Tryd.prog 27 #[I5 false x, .bool true] w fun e w' => e = .returned (.tuple #[.agg #[.bool h, .int .u64 y0, .int .u64 y1, .int .u64 y2, .int .u64 y3], .bool b]) ∧ Below w.heap.size w w' := by
  unfold I5 at *
  have M1 := Lib.hid m1; have HX := Lib.hid hx; clear m1 hx
  have KW := Lib.hid kw; clear kw
  have L1 := Lib.hid (digs_of_eight HX.out)
  have L2 := Lib.hid (digs_of_eight (show 1 < 2 ^ 256 by decide))
  go_enter Tryd.func27, Tryd.ntmps27
  go_wp2_with fail
  refine (M1.out _).mono ?_
  rintro e w1 ⟨rfl, hb⟩
  have BW1 : Below w.heap.size w w1 := btr (by repeat (first | (with_reducible exact Below.refl _ _) | (with_reducible refine bal ?_ _) | (with_reducible refine Below.drew ?_) | (with_reducible refine bdn ?_ _))) hb
  have X1 : Row5 w1 w.heap.size (.bool false) (.int .u64 (lb 0 x)) (.int .u64 (lb 1 x)) (.int .u64 (lb 2 x)) (.int .u64 (lb 3 x)) := Row5.keep hb (by repeat (first | (with_reducible exact Row5.new _ _ _ _ _ _) | ((with_reducible refine Row5.new' _ ?_ _ _ _ _ _); (simp; done)) | (with_reducible refine Row5.alloc ?_ _) | (with_reducible refine Row5.drew ?_)))
  have R1 : Row5 w1 (w.heap.size + 1) (.bool false) (.int .u64 0) (.int .u64 0) (.int .u64 0) (.int .u64 0) := Row5.keep hb (by repeat (first | (with_reducible exact Row5.new _ _ _ _ _ _) | ((with_reducible refine Row5.new' _ ?_ _ _ _ _ _); (simp; done)) | (with_reducible refine Row5.alloc ?_ _) | (with_reducible refine Row5.drew ?_)))
  clear hb
  obtain ⟨Xc0, Xc1, Xc2, Xc3, Xc4⟩ := X1.parts
  obtain ⟨Xf0, Xf1, Xf2, Xf3, Xf4⟩ := X1.free
  go_wp2_with fail
  refine (rof x HX.out _).mono ?_
  rintro e w2 ⟨s1, rfl, hr, hb⟩
  have hbX : Below w1.heap.size w1 w2 := btr (by repeat (first | (with_reducible exact Below.refl _ _) | (with_reducible refine bal ?_ _) | (with_reducible refine Below.drew ?_) | (with_reducible refine bdn ?_ _))) hb
  clear hbX
  have DX2 : DR w2 s1 x := hr
  clear hr
  have BW2 : Below w.heap.size w w2 := btr (by repeat (first | (with_reducible exact BW1) | (with_reducible refine bal ?_ _) | (with_reducible refine Below.drew ?_) | (with_reducible refine bdn ?_ _))) hb
  have X2 : Row5 w2 w.heap.size (.bool false) (.int .u64 (lb 0 x)) (.int .u64 (lb 1 x)) (.int .u64 (lb 2 x)) (.int .u64 (lb 3 x)) := Row5.keep hb (by repeat (first | (with_reducible exact X1) | (with_reducible refine Row5.alloc ?_ _) | (with_reducible refine Row5.drew ?_)))
  have R2 : Row5 w2 (w.heap.size + 1) (.bool false) (.int .u64 0) (.int .u64 0) (.int .u64 0) (.int .u64 0) := Row5.keep hb (by repeat (first | (with_reducible exact R1) | (with_reducible refine Row5.alloc ?_ _) | (with_reducible refine Row5.drew ?_)))
  clear X1 R1
  clear BW1
  clear hb
  obtain ⟨A9, c9, rfl, _⟩ := DX2.form
  obtain ⟨Xc0, Xc1, Xc2, Xc3, Xc4⟩ := X2.parts
  obtain ⟨Xf0, Xf1, Xf2, Xf3, Xf4⟩ := X2.free
  go_upto_region 7 with (fail)
  go_name_world w3 hw3
  have BW3 : Below w.heap.size w w3 := by rw [← hw3]; repeat (first | (with_reducible exact BW2) | (with_reducible refine bal ?_ _) | (with_reducible refine Below.drew ?_) | (with_reducible refine bdn ?_ _))
  have hbX : Below w2.heap.size w2 w3 := by rw [← hw3]; repeat (first | (with_reducible exact Below.refl _ _) | (with_reducible refine bal ?_ _) | (with_reducible refine Below.drew ?_) | (with_reducible refine bdn ?_ _))
  have DX3 : DR w3 (.slice A9 (digs x).length c9) x := DR.keep hbX DX2
  clear hbX DX2
  have X3 : Row5 w3 w.heap.size (.bool false) (.int .u64 (lb 0 x)) (.int .u64 (lb 1 x)) (.int .u64 (lb 2 x)) (.int .u64 (lb 3 x)) := by rw [← hw3]; exact (by repeat (first | (with_reducible exact X2) | (with_reducible refine Row5.alloc ?_ _) | (with_reducible refine Row5.drew ?_)))
  have R3 : Row5 w3 (w.heap.size + 1) (.bool false) (.int .u64 0) (.int .u64 0) (.int .u64 0) (.int .u64 0) := by rw [← hw3]; exact (by repeat (first | (with_reducible exact R2) | (with_reducible refine Row5.alloc ?_ _) | (with_reducible refine Row5.drew ?_)))
  clear X2 R2
  clear BW2
  clear hw3
  have lt_X := X3.lt
  have lt_R := R3.lt
  obtain ⟨Xc0, Xc1, Xc2, Xc3, Xc4⟩ := X3.parts
  obtain ⟨Xf0, Xf1, Xf2, Xf3, Xf4⟩ := X3.free
  go_region_held3 (fun w' => w'.cell? ⟨w.heap.size, 0, none⟩ = some (.bool false) ∧ w'.cell? ⟨w.heap.size, 1, none⟩ = some (.int .u64 (lb 0 x)) ∧ w'.cell? ⟨w.heap.size, 2, none⟩ = some (.int .u64 (lb 1 x)) ∧ w'.cell? ⟨w.heap.size, 3, none⟩ = some (.int .u64 (lb 2 x)) ∧ w'.cell? ⟨w.heap.size, 4, none⟩ = some (.int .u64 (lb 3 x)))
    ((refine Row5.parts ?_; (repeat (first | (with_reducible assumption) | (with_reducible refine Row5.alloc ?_ _) | (with_reducible refine Row5.drew ?_) | (with_reducible refine Row5.drewN ?_ _) | ((with_reducible refine Row5.set ?_ ?_ _); rotate_left; (focus (omega))))); done))
    (first | (go_at_call 44; (with_reducible refine (radd (DR.keep (by repeat (first | (with_reducible exact Below.refl _ _) | (with_reducible refine bal ?_ _) | (with_reducible refine Below.drew ?_) | (with_reducible refine bdn ?_ _))) DX3) (DR.keep (by repeat (first | (with_reducible exact Below.refl _ _) | (with_reducible refine bal ?_ _) | (with_reducible refine Below.drew ?_) | (with_reducible refine bdn ?_ _))) (ten_new w3 1 (by decide) (by decide) 1 rfl)) L1.out L2.out).mono ?_); rintro e wa ⟨sa, rfl, hra, hba⟩; have ba : Below w.heap.size w wa := btr (by repeat (first | (with_reducible exact BW3) | (with_reducible refine bal ?_ _) | (with_reducible refine Below.drew ?_) | (with_reducible refine bdn ?_ _))) hba; have Xa : Row5 wa w.heap.size (.bool false) (.int .u64 (lb 0 x)) (.int .u64 (lb 1 x)) (.int .u64 (lb 2 x)) (.int .u64 (lb 3 x)) := Row5.keep hba (by repeat (first | (with_reducible exact X3) | (with_reducible refine Row5.alloc ?_ _) | (with_reducible refine Row5.drew ?_) | (with_reducible refine Row5.drewN ?_ _))); have Ra : Row5 wa (w.heap.size + 1) (.bool false) (.int .u64 0) (.int .u64 0) (.int .u64 0) (.int .u64 0) := Row5.keep hba (by repeat (first | (with_reducible exact R3) | (with_reducible refine Row5.alloc ?_ _) | (with_reducible refine Row5.drew ?_) | (with_reducible refine Row5.drewN ?_ _))); obtain ⟨xa0, xa1, xa2, xa3, xa4⟩ := Xa.parts) | (go_at_call 43; (with_reducible refine (KW.out _ _ (DR.keep (by repeat (first | (with_reducible exact Below.refl _ _) | (with_reducible refine bal ?_ _) | (with_reducible refine Below.drew ?_) | (with_reducible refine bdn ?_ _))) hra)).mono ?_); rintro e wb ⟨rfl, hbb⟩; have bb : Below w.heap.size w wb := btr (by repeat (first | (with_reducible exact ba) | (with_reducible refine bal ?_ _) | (with_reducible refine Below.drew ?_) | (with_reducible refine bdn ?_ _))) hbb; have Rb : Row5 wb (w.heap.size + 1) (.bool false) (.int .u64 0) (.int .u64 0) (.int .u64 0) (.int .u64 0) := Row5.keep hbb (by repeat (first | (with_reducible exact Ra) | (with_reducible refine Row5.alloc ?_ _) | (with_reducible refine Row5.drew ?_) | (with_reducible refine Row5.drewN ?_ _))); have Xb : Row5 wb w.heap.size (.bool false) (.int .u64 (lb 0 x)) (.int .u64 (lb 1 x)) (.int .u64 (lb 2 x)) (.int .u64 (lb 3 x)) := Row5.keep hbb (by repeat (first | (with_reducible exact Xa) | (with_reducible refine Row5.alloc ?_ _) | (with_reducible refine Row5.drew ?_) | (with_reducible refine Row5.drewN ?_ _))); obtain ⟨rb0, rb1, rb2, rb3, rb4⟩ := Rb.parts; obtain ⟨rg0, rg1, rg2, rg3, rg4⟩ := Rb.free; have ltb := Rb.lt; have ltc := Xb.lt; have nbx : ¬ w.heap.size + 1 = w.heap.size := by omega))
  all_goals
    go_wp2
    exact bodyPost_ret (v := .tuple #[.agg #[.bool h, .int .u64 y0, .int .u64 y1, .int .u64 y2, .int .u64 y3], .bool b]) (by simp [results, Tryd.results27, go_sem, rb0, rb1, rb2, rb3, rb4]) rfl ⟨rfl, by repeat (first | (with_reducible exact bb) | (with_reducible refine bal ?_ _) | (with_reducible refine Below.drew ?_) | (with_reducible refine bdn ?_ _) | ((with_reducible refine bsc ?_ ?_ _); rotate_left; (focus (simp only []; omega))))⟩
set_option maxHeartbeats 2000000 in
set_option maxRecDepth 100000 in
theorem rstep_grow_true (x : Nat) (hx : x < 2 ^ 256) (hz : (((digs x).length : Int) == 0) = false) (h : Bool) (y0 y1 y2 y3 : Int) (b : Bool) (kw : ∀ s' W, DR W s' (x + 1) → Calls Tryd.prog 43 #[.bool true, s'] W fun e w' => e = .returned (.tuple #[.agg #[.bool h, .int .u64 y0, .int .u64 y1, .int .u64 y2, .int .u64 y3], .bool b]) ∧ Below W.heap.size W w') (w : World)
    (m1 : ∀ W, Calls Tryd.prog 24 #[I5 true x] W fun e w' => e = .returned (.bool true) ∧ Below W.heap.size W w') :
    Calls Tryd.prog 27 #[I5 true x, .bool false] w fun e w' => e = .returned (.tuple #[.agg #[.bool h, .int .u64 y0, .int .u64 y1, .int .u64 y2, .int .u64 y3], .bool b]) ∧ Below w.heap.size w w' := by
  unfold I5 at *
  have M1 := Lib.hid m1; have HX := Lib.hid hx; clear m1 hx
  have KW := Lib.hid kw; clear kw
  have L1 := Lib.hid (digs_of_eight HX.out)
  have L2 := Lib.hid (digs_of_eight (show 1 < 2 ^ 256 by decide))
  go_enter Tryd.func27, Tryd.ntmps27
  go_wp2_with fail
  refine (M1.out _).mono ?_
  rintro e w1 ⟨rfl, hb⟩
  have BW1 : Below w.heap.size w w1 := btr (by repeat (first | (with_reducible exact Below.refl _ _) | (with_reducible refine bal ?_ _) | (with_reducible refine Below.drew ?_) | (with_reducible refine bdn ?_ _))) hb
  have X1 : Row5 w1 w.heap.size (.bool true) (.int .u64 (lb 0 x)) (.int .u64 (lb 1 x)) (.int .u64 (lb 2 x)) (.int .u64 (lb 3 x)) := Row5.keep hb (by repeat (first | (with_reducible exact Row5.new _ _ _ _ _ _) | ((with_reducible refine Row5.new' _ ?_ _ _ _ _ _); (simp; done)) | (with_reducible refine Row5.alloc ?_ _) | (with_reducible refine Row5.drew ?_)))
  have R1 : Row5 w1 (w.heap.size + 1) (.bool false) (.int .u64 0) (.int .u64 0) (.int .u64 0) (.int .u64 0) := Row5.keep hb (by repeat (first | (with_reducible exact Row5.new _ _ _ _ _ _) | ((with_reducible refine Row5.new' _ ?_ _ _ _ _ _); (simp; done)) | (with_reducible refine Row5.alloc ?_ _) | (with_reducible refine Row5.drew ?_)))
  clear hb
  obtain ⟨Xc0, Xc1, Xc2, Xc3, Xc4⟩ := X1.parts
  obtain ⟨Xf0, Xf1, Xf2, Xf3, Xf4⟩ := X1.free
  go_wp2_with fail
  refine (rof x HX.out _).mono ?_
  rintro e w2 ⟨s1, rfl, hr, hb⟩
  have hbX : Below w1.heap.size w1 w2 := btr (by repeat (first | (with_reducible exact Below.refl _ _) | (with_reducible refine bal ?_ _) | (with_reducible refine Below.drew ?_) | (with_reducible refine bdn ?_ _))) hb
  clear hbX
  have DX2 : DR w2 s1 x := hr
  clear hr
  have BW2 : Below w.heap.size w w2 := btr (by repeat (first | (with_reducible exact BW1) | (with_reducible refine bal ?_ _) | (with_reducible refine Below.drew ?_) | (with_reducible refine bdn ?_ _))) hb
  have X2 : Row5 w2 w.heap.size (.bool true) (.int .u64 (lb 0 x)) (.int .u64 (lb 1 x)) (.int .u64 (lb 2 x)) (.int .u64 (lb 3 x)) := Row5.keep hb (by repeat (first | (with_reducible exact X1) | (with_reducible refine Row5.alloc ?_ _) | (with_reducible refine Row5.drew ?_)))
  have R2 : Row5 w2 (w.heap.size + 1) (.bool false) (.int .u64 0) (.int .u64 0) (.int .u64 0) (.int .u64 0) := Row5.keep hb (by repeat (first | (with_reducible exact R1) | (with_reducible refine Row5.alloc ?_ _) | (with_reducible refine Row5.drew ?_)))
  clear X1 R1
  clear BW1
  clear hb
  obtain ⟨A9, c9, rfl, _⟩ := DX2.form
  obtain ⟨Xc0, Xc1, Xc2, Xc3, Xc4⟩ := X2.parts
  obtain ⟨Xf0, Xf1, Xf2, Xf3, Xf4⟩ := X2.free
  go_upto_region 7 with (fail)
  go_name_world w3 hw3
  have BW3 : Below w.heap.size w w3 := by rw [← hw3]; repeat (first | (with_reducible exact BW2) | (with_reducible refine bal ?_ _) | (with_reducible refine Below.drew ?_) | (with_reducible refine bdn ?_ _))
  have hbX : Below w2.heap.size w2 w3 := by rw [← hw3]; repeat (first | (with_reducible exact Below.refl _ _) | (with_reducible refine bal ?_ _) | (with_reducible refine Below.drew ?_) | (with_reducible refine bdn ?_ _))
  have DX3 : DR w3 (.slice A9 (digs x).length c9) x := DR.keep hbX DX2
  clear hbX DX2
  have X3 : Row5 w3 w.heap.size (.bool true) (.int .u64 (lb 0 x)) (.int .u64 (lb 1 x)) (.int .u64 (lb 2 x)) (.int .u64 (lb 3 x)) := by rw [← hw3]; exact (by repeat (first | (with_reducible exact X2) | (with_reducible refine Row5.alloc ?_ _) | (with_reducible refine Row5.drew ?_)))
  have R3 : Row5 w3 (w.heap.size + 1) (.bool false) (.int .u64 0) (.int .u64 0) (.int .u64 0) (.int .u64 0) := by rw [← hw3]; exact (by repeat (first | (with_reducible exact R2) | (with_reducible refine Row5.alloc ?_ _) | (with_reducible refine Row5.drew ?_)))
  clear X2 R2
  clear BW2
  clear hw3
  have lt_X := X3.lt
  have lt_R := R3.lt
  obtain ⟨Xc0, Xc1, Xc2, Xc3, Xc4⟩ := X3.parts
  obtain ⟨Xf0, Xf1, Xf2, Xf3, Xf4⟩ := X3.free
  go_region_held3 (fun w' => w'.cell? ⟨w.heap.size, 0, none⟩ = some (.bool true) ∧ w'.cell? ⟨w.heap.size, 1, none⟩ = some (.int .u64 (lb 0 x)) ∧ w'.cell? ⟨w.heap.size, 2, none⟩ = some (.int .u64 (lb 1 x)) ∧ w'.cell? ⟨w.heap.size, 3, none⟩ = some (.int .u64 (lb 2 x)) ∧ w'.cell? ⟨w.heap.size, 4, none⟩ = some (.int .u64 (lb 3 x)))
    ((refine Row5.parts ?_; (repeat (first | (with_reducible assumption) | (with_reducible refine Row5.alloc ?_ _) | (with_reducible refine Row5.drew ?_) | (with_reducible refine Row5.drewN ?_ _) | ((with_reducible refine Row5.set ?_ ?_ _); rotate_left; (focus (omega))))); done))
    (first | (go_at_call 44; (with_reducible refine (radd (DR.keep (by repeat (first | (with_reducible exact Below.refl _ _) | (with_reducible refine bal ?_ _) | (with_reducible refine Below.drew ?_) | (with_reducible refine bdn ?_ _))) DX3) (DR.keep (by repeat (first | (with_reducible exact Below.refl _ _) | (with_reducible refine bal ?_ _) | (with_reducible refine Below.drew ?_) | (with_reducible refine bdn ?_ _))) (ten_new w3 1 (by decide) (by decide) 1 rfl)) L1.out L2.out).mono ?_); rintro e wa ⟨sa, rfl, hra, hba⟩; have ba : Below w.heap.size w wa := btr (by repeat (first | (with_reducible exact BW3) | (with_reducible refine bal ?_ _) | (with_reducible refine Below.drew ?_) | (with_reducible refine bdn ?_ _))) hba; have Xa : Row5 wa w.heap.size (.bool true) (.int .u64 (lb 0 x)) (.int .u64 (lb 1 x)) (.int .u64 (lb 2 x)) (.int .u64 (lb 3 x)) := Row5.keep hba (by repeat (first | (with_reducible exact X3) | (with_reducible refine Row5.alloc ?_ _) | (with_reducible refine Row5.drew ?_) | (with_reducible refine Row5.drewN ?_ _))); have Ra : Row5 wa (w.heap.size + 1) (.bool false) (.int .u64 0) (.int .u64 0) (.int .u64 0) (.int .u64 0) := Row5.keep hba (by repeat (first | (with_reducible exact R3) | (with_reducible refine Row5.alloc ?_ _) | (with_reducible refine Row5.drew ?_) | (with_reducible refine Row5.drewN ?_ _))); obtain ⟨xa0, xa1, xa2, xa3, xa4⟩ := Xa.parts) | (go_at_call 43; (with_reducible refine (KW.out _ _ (DR.keep (by repeat (first | (with_reducible exact Below.refl _ _) | (with_reducible refine bal ?_ _) | (with_reducible refine Below.drew ?_) | (with_reducible refine bdn ?_ _))) hra)).mono ?_); rintro e wb ⟨rfl, hbb⟩; have bb : Below w.heap.size w wb := btr (by repeat (first | (with_reducible exact ba) | (with_reducible refine bal ?_ _) | (with_reducible refine Below.drew ?_) | (with_reducible refine bdn ?_ _))) hbb; have Rb : Row5 wb (w.heap.size + 1) (.bool false) (.int .u64 0) (.int .u64 0) (.int .u64 0) (.int .u64 0) := Row5.keep hbb (by repeat (first | (with_reducible exact Ra) | (with_reducible refine Row5.alloc ?_ _) | (with_reducible refine Row5.drew ?_) | (with_reducible refine Row5.drewN ?_ _))); have Xb : Row5 wb w.heap.size (.bool true) (.int .u64 (lb 0 x)) (.int .u64 (lb 1 x)) (.int .u64 (lb 2 x)) (.int .u64 (lb 3 x)) := Row5.keep hbb (by repeat (first | (with_reducible exact Xa) | (with_reducible refine Row5.alloc ?_ _) | (with_reducible refine Row5.drew ?_) | (with_reducible refine Row5.drewN ?_ _))); obtain ⟨rb0, rb1, rb2, rb3, rb4⟩ := Rb.parts; obtain ⟨rg0, rg1, rg2, rg3, rg4⟩ := Rb.free; have ltb := Rb.lt; have ltc := Xb.lt; have nbx : ¬ w.heap.size + 1 = w.heap.size := by omega))
  all_goals
    go_wp2
    exact bodyPost_ret (v := .tuple #[.agg #[.bool h, .int .u64 y0, .int .u64 y1, .int .u64 y2, .int .u64 y3], .bool b]) (by simp [results, Tryd.results27, go_sem, rb0, rb1, rb2, rb3, rb4]) rfl ⟨rfl, by repeat (first | (with_reducible exact bb) | (with_reducible refine bal ?_ _) | (with_reducible refine Below.drew ?_) | (with_reducible refine bdn ?_ _) | ((with_reducible refine bsc ?_ ?_ _); rotate_left; (focus (simp only []; omega))))⟩
set_option maxHeartbeats 2000000 in
set_option maxRecDepth 100000 in
theorem rstep_less_true (x : Nat) (hx : x < 2 ^ 256) (hz : (((digs x).length : Int) == 0) = false) (hle : 1 ≤ x) (h : Bool) (y0 y1 y2 y3 : Int) (b : Bool) (kw : ∀ s' W, DR W s' (x - 1) → Calls Tryd.prog 43 #[.bool true, s'] W fun e w' => e = .returned (.tuple #[.agg #[.bool h, .int .u64 y0, .int .u64 y1, .int .u64 y2, .int .u64 y3], .bool b]) ∧ Below W.heap.size W w') (w : World)
    (m1 : ∀ W, Calls Tryd.prog 24 #[I5 true x] W fun e w' => e = .returned (.bool true) ∧ Below W.heap.size W w') :
    Calls Tryd.prog 27 #[I5 true x, .bool true] w fun e w' => e = .returned (.tuple #[.agg #[.bool h, .int .u64 y0, .int .u64 y1, .int .u64 y2, .int .u64 y3], .bool b]) ∧ Below w.heap.size w w' := by
  unfold I5 at *
  have M1 := Lib.hid m1; have HX := Lib.hid hx; clear m1 hx
  have KW := Lib.hid kw; clear kw
  have L1 := Lib.hid (digs_of_eight HX.out)
  have L2 := Lib.hid (digs_of_eight (show 1 < 2 ^ 256 by decide))
  go_enter Tryd.func27, Tryd.ntmps27
  go_wp2_with fail
  refine (M1.out _).mono ?_
  rintro e w1 ⟨rfl, hb⟩
  have BW1 : Below w.heap.size w w1 := btr (by repeat (first | (with_reducible exact Below.refl _ _) | (with_reducible refine bal ?_ _) | (with_reducible refine Below.drew ?_) | (with_reducible refine bdn ?_ _))) hb
  have X1 : Row5 w1 w.heap.size (.bool true) (.int .u64 (lb 0 x)) (.int .u64 (lb 1 x)) (.int .u64 (lb 2 x)) (.int .u64 (lb 3 x)) := Row5.keep hb (by repeat (first | (with_reducible exact Row5.new _ _ _ _ _ _) | ((with_reducible refine Row5.new' _ ?_ _ _ _ _ _); (simp; done)) | (with_reducible refine Row5.alloc ?_ _) | (with_reducible refine Row5.drew ?_)))
  have R1 : Row5 w1 (w.heap.size + 1) (.bool false) (.int .u64 0) (.int .u64 0) (.int .u64 0) (.int .u64 0) := Row5.keep hb (by repeat (first | (with_reducible exact Row5.new _ _ _ _ _ _) | ((with_reducible refine Row5.new' _ ?_ _ _ _ _ _); (simp; done)) | (with_reducible refine Row5.alloc ?_ _) | (with_reducible refine Row5.drew ?_)))
  clear hb
  obtain ⟨Xc0, Xc1, Xc2, Xc3, Xc4⟩ := X1.parts
  obtain ⟨Xf0, Xf1, Xf2, Xf3, Xf4⟩ := X1.free
  go_wp2_with fail
  refine (rof x HX.out _).mono ?_
  rintro e w2 ⟨s1, rfl, hr, hb⟩
  have hbX : Below w1.heap.size w1 w2 := btr (by repeat (first | (with_reducible exact Below.refl _ _) | (with_reducible refine bal ?_ _) | (with_reducible refine Below.drew ?_) | (with_reducible refine bdn ?_ _))) hb
  clear hbX
  have DX2 : DR w2 s1 x := hr
  clear hr
  have BW2 : Below w.heap.size w w2 := btr (by repeat (first | (with_reducible exact BW1) | (with_reducible refine bal ?_ _) | (with_reducible refine Below.drew ?_) | (with_reducible refine bdn ?_ _))) hb
  have X2 : Row5 w2 w.heap.size (.bool true) (.int .u64 (lb 0 x)) (.int .u64 (lb 1 x)) (.int .u64 (lb 2 x)) (.int .u64 (lb 3 x)) := Row5.keep hb (by repeat (first | (with_reducible exact X1) | (with_reducible refine Row5.alloc ?_ _) | (with_reducible refine Row5.drew ?_)))
  have R2 : Row5 w2 (w.heap.size + 1) (.bool false) (.int .u64 0) (.int .u64 0) (.int .u64 0) (.int .u64 0) := Row5.keep hb (by repeat (first | (with_reducible exact R1) | (with_reducible refine Row5.alloc ?_ _) | (with_reducible refine Row5.drew ?_)))
  clear X1 R1
  clear BW1
  clear hb
  obtain ⟨A9, c9, rfl, _⟩ := DX2.form
  obtain ⟨Xc0, Xc1, Xc2, Xc3, Xc4⟩ := X2.parts
  obtain ⟨Xf0, Xf1, Xf2, Xf3, Xf4⟩ := X2.free
  go_upto_region 8 with (fail)
  go_name_world w3 hw3
  have BW3 : Below w.heap.size w w3 := by rw [← hw3]; repeat (first | (with_reducible exact BW2) | (with_reducible refine bal ?_ _) | (with_reducible refine Below.drew ?_) | (with_reducible refine bdn ?_ _))
  have hbX : Below w2.heap.size w2 w3 := by rw [← hw3]; repeat (first | (with_reducible exact Below.refl _ _) | (with_reducible refine bal ?_ _) | (with_reducible refine Below.drew ?_) | (with_reducible refine bdn ?_ _))
  have DX3 : DR w3 (.slice A9 (digs x).length c9) x := DR.keep hbX DX2
  clear hbX DX2
  have X3 : Row5 w3 w.heap.size (.bool true) (.int .u64 (lb 0 x)) (.int .u64 (lb 1 x)) (.int .u64 (lb 2 x)) (.int .u64 (lb 3 x)) := by rw [← hw3]; exact (by repeat (first | (with_reducible exact X2) | (with_reducible refine Row5.alloc ?_ _) | (with_reducible refine Row5.drew ?_)))
  have R3 : Row5 w3 (w.heap.size + 1) (.bool false) (.int .u64 0) (.int .u64 0) (.int .u64 0) (.int .u64 0) := by rw [← hw3]; exact (by repeat (first | (with_reducible exact R2) | (with_reducible refine Row5.alloc ?_ _) | (with_reducible refine Row5.drew ?_)))
  clear X2 R2
  clear BW2
  clear hw3
  have lt_X := X3.lt
  have lt_R := R3.lt
  obtain ⟨Xc0, Xc1, Xc2, Xc3, Xc4⟩ := X3.parts
  obtain ⟨Xf0, Xf1, Xf2, Xf3, Xf4⟩ := X3.free
  go_region_held3 (fun w' => w'.cell? ⟨w.heap.size, 0, none⟩ = some (.bool true) ∧ w'.cell? ⟨w.heap.size, 1, none⟩ = some (.int .u64 (lb 0 x)) ∧ w'.cell? ⟨w.heap.size, 2, none⟩ = some (.int .u64 (lb 1 x)) ∧ w'.cell? ⟨w.heap.size, 3, none⟩ = some (.int .u64 (lb 2 x)) ∧ w'.cell? ⟨w.heap.size, 4, none⟩ = some (.int .u64 (lb 3 x)))
    ((refine Row5.parts ?_; (repeat (first | (with_reducible assumption) | (with_reducible refine Row5.alloc ?_ _) | (with_reducible refine Row5.drew ?_) | (with_reducible refine Row5.drewN ?_ _) | ((with_reducible refine Row5.set ?_ ?_ _); rotate_left; (focus (omega))))); done))
    (first | (go_at_call 45; (with_reducible refine (rsub (DR.keep (by repeat (first | (with_reducible exact Below.refl _ _) | (with_reducible refine bal ?_ _) | (with_reducible refine Below.drew ?_) | (with_reducible refine bdn ?_ _))) DX3) (DR.keep (by repeat (first | (with_reducible exact Below.refl _ _) | (with_reducible refine bal ?_ _) | (with_reducible refine Below.drew ?_) | (with_reducible refine bdn ?_ _))) (ten_new w3 1 (by decide) (by decide) 1 rfl)) L1.out hle).mono ?_); rintro e wa ⟨sa, rfl, hra, hba⟩; have ba : Below w.heap.size w wa := btr (by repeat (first | (with_reducible exact BW3) | (with_reducible refine bal ?_ _) | (with_reducible refine Below.drew ?_) | (with_reducible refine bdn ?_ _))) hba; have Xa : Row5 wa w.heap.size (.bool true) (.int .u64 (lb 0 x)) (.int .u64 (lb 1 x)) (.int .u64 (lb 2 x)) (.int .u64 (lb 3 x)) := Row5.keep hba (by repeat (first | (with_reducible exact X3) | (with_reducible refine Row5.alloc ?_ _) | (with_reducible refine Row5.drew ?_) | (with_reducible refine Row5.drewN ?_ _))); have Ra : Row5 wa (w.heap.size + 1) (.bool false) (.int .u64 0) (.int .u64 0) (.int .u64 0) (.int .u64 0) := Row5.keep hba (by repeat (first | (with_reducible exact R3) | (with_reducible refine Row5.alloc ?_ _) | (with_reducible refine Row5.drew ?_) | (with_reducible refine Row5.drewN ?_ _))); obtain ⟨xa0, xa1, xa2, xa3, xa4⟩ := Xa.parts) | (go_at_call 43; (with_reducible refine (KW.out _ _ (DR.keep (by repeat (first | (with_reducible exact Below.refl _ _) | (with_reducible refine bal ?_ _) | (with_reducible refine Below.drew ?_) | (with_reducible refine bdn ?_ _))) hra)).mono ?_); rintro e wb ⟨rfl, hbb⟩; have bb : Below w.heap.size w wb := btr (by repeat (first | (with_reducible exact ba) | (with_reducible refine bal ?_ _) | (with_reducible refine Below.drew ?_) | (with_reducible refine bdn ?_ _))) hbb; have Rb : Row5 wb (w.heap.size + 1) (.bool false) (.int .u64 0) (.int .u64 0) (.int .u64 0) (.int .u64 0) := Row5.keep hbb (by repeat (first | (with_reducible exact Ra) | (with_reducible refine Row5.alloc ?_ _) | (with_reducible refine Row5.drew ?_) | (with_reducible refine Row5.drewN ?_ _))); have Xb : Row5 wb w.heap.size (.bool true) (.int .u64 (lb 0 x)) (.int .u64 (lb 1 x)) (.int .u64 (lb 2 x)) (.int .u64 (lb 3 x)) := Row5.keep hbb (by repeat (first | (with_reducible exact Xa) | (with_reducible refine Row5.alloc ?_ _) | (with_reducible refine Row5.drew ?_) | (with_reducible refine Row5.drewN ?_ _))); obtain ⟨rb0, rb1, rb2, rb3, rb4⟩ := Rb.parts; obtain ⟨rg0, rg1, rg2, rg3, rg4⟩ := Rb.free; have ltb := Rb.lt; have ltc := Xb.lt; have nbx : ¬ w.heap.size + 1 = w.heap.size := by omega))
  all_goals
    go_wp2
    exact bodyPost_ret (v := .tuple #[.agg #[.bool h, .int .u64 y0, .int .u64 y1, .int .u64 y2, .int .u64 y3], .bool b]) (by simp [results, Tryd.results27, go_sem, rb0, rb1, rb2, rb3, rb4]) rfl ⟨rfl, by repeat (first | (with_reducible exact bb) | (with_reducible refine bal ?_ _) | (with_reducible refine Below.drew ?_) | (with_reducible refine bdn ?_ _) | ((with_reducible refine bsc ?_ ?_ _); rotate_left; (focus (simp only []; omega))))⟩
set_option maxHeartbeats 2000000 in
set_option maxRecDepth 100000 in
theorem rstep_less_false (x : Nat) (hx : x < 2 ^ 256) (hz : (((digs x).length : Int) == 0) = false) (hle : 1 ≤ x) (h : Bool) (y0 y1 y2 y3 : Int) (b : Bool) (kw : ∀ s' W, DR W s' (x - 1) → Calls Tryd.prog 43 #[.bool false, s'] W fun e w' => e = .returned (.tuple #[.agg #[.bool h, .int .u64 y0, .int .u64 y1, .int .u64 y2, .int .u64 y3], .bool b]) ∧ Below W.heap.size W w') (w : World)
    (m1 : ∀ W, Calls Tryd.prog 24 #[I5 false x] W fun e w' => e = .returned (.bool true) ∧ Below W.heap.size W w') :
    Calls Tryd.prog 27 #[I5 false x, .bool false] w fun e w' => e = .returned (.tuple #[.agg #[.bool h, .int .u64 y0, .int .u64 y1, .int .u64 y2, .int .u64 y3], .bool b]) ∧ Below w.heap.size w w' := by
  unfold I5 at *
  have M1 := Lib.hid m1; have HX := Lib.hid hx; clear m1 hx
  have KW := Lib.hid kw; clear kw
  have L1 := Lib.hid (digs_of_eight HX.out)
  have L2 := Lib.hid (digs_of_eight (show 1 < 2 ^ 256 by decide))
  go_enter Tryd.func27, Tryd.ntmps27
  go_wp2_with fail
  refine (M1.out _).mono ?_
  rintro e w1 ⟨rfl, hb⟩
  have BW1 : Below w.heap.size w w1 := btr (by repeat (first | (with_reducible exact Below.refl _ _) | (with_reducible refine bal ?_ _) | (with_reducible refine Below.drew ?_) | (with_reducible refine bdn ?_ _))) hb
  have X1 : Row5 w1 w.heap.size (.bool false) (.int .u64 (lb 0 x)) (.int .u64 (lb 1 x)) (.int .u64 (lb 2 x)) (.int .u64 (lb 3 x)) := Row5.keep hb (by repeat (first | (with_reducible exact Row5.new _ _ _ _ _ _) | ((with_reducible refine Row5.new' _ ?_ _ _ _ _ _); (simp; done)) | (with_reducible refine Row5.alloc ?_ _) | (with_reducible refine Row5.drew ?_)))
  have R1 : Row5 w1 (w.heap.size + 1) (.bool false) (.int .u64 0) (.int .u64 0) (.int .u64 0) (.int .u64 0) := Row5.keep hb (by repeat (first | (with_reducible exact Row5.new _ _ _ _ _ _) | ((with_reducible refine Row5.new' _ ?_ _ _ _ _ _); (simp; done)) | (with_reducible refine Row5.alloc ?_ _) | (with_reducible refine Row5.drew ?_)))
  clear hb
  obtain ⟨Xc0, Xc1, Xc2, Xc3, Xc4⟩ := X1.parts
  obtain ⟨Xf0, Xf1, Xf2, Xf3, Xf4⟩ := X1.free
  go_wp2_with fail
  refine (rof x HX.out _).mono ?_
  rintro e w2 ⟨s1, rfl, hr, hb⟩
  have hbX : Below w1.heap.size w1 w2 := btr (by repeat (first | (with_reducible exact Below.refl _ _) | (with_reducible refine bal ?_ _) | (with_reducible refine Below.drew ?_) | (with_reducible refine bdn ?_ _))) hb
  clear hbX
  have DX2 : DR w2 s1 x := hr
  clear hr
  have BW2 : Below w.heap.size w w2 := btr (by repeat (first | (with_reducible exact BW1) | (with_reducible refine bal ?_ _) | (with_reducible refine Below.drew ?_) | (with_reducible refine bdn ?_ _))) hb
  have X2 : Row5 w2 w.heap.size (.bool false) (.int .u64 (lb 0 x)) (.int .u64 (lb 1 x)) (.int .u64 (lb 2 x)) (.int .u64 (lb 3 x)) := Row5.keep hb (by repeat (first | (with_reducible exact X1) | (with_reducible refine Row5.alloc ?_ _) | (with_reducible refine Row5.drew ?_)))
  have R2 : Row5 w2 (w.heap.size + 1) (.bool false) (.int .u64 0) (.int .u64 0) (.int .u64 0) (.int .u64 0) := Row5.keep hb (by repeat (first | (with_reducible exact R1) | (with_reducible refine Row5.alloc ?_ _) | (with_reducible refine Row5.drew ?_)))
  clear X1 R1
  clear BW1
  clear hb
  obtain ⟨A9, c9, rfl, _⟩ := DX2.form
  obtain ⟨Xc0, Xc1, Xc2, Xc3, Xc4⟩ := X2.parts
  obtain ⟨Xf0, Xf1, Xf2, Xf3, Xf4⟩ := X2.free
  go_upto_region 8 with (fail)
  go_name_world w3 hw3
  have BW3 : Below w.heap.size w w3 := by rw [← hw3]; repeat (first | (with_reducible exact BW2) | (with_reducible refine bal ?_ _) | (with_reducible refine Below.drew ?_) | (with_reducible refine bdn ?_ _))
  have hbX : Below w2.heap.size w2 w3 := by rw [← hw3]; repeat (first | (with_reducible exact Below.refl _ _) | (with_reducible refine bal ?_ _) | (with_reducible refine Below.drew ?_) | (with_reducible refine bdn ?_ _))
  have DX3 : DR w3 (.slice A9 (digs x).length c9) x := DR.keep hbX DX2
  clear hbX DX2
  have X3 : Row5 w3 w.heap.size (.bool false) (.int .u64 (lb 0 x)) (.int .u64 (lb 1 x)) (.int .u64 (lb 2 x)) (.int .u64 (lb 3 x)) := by rw [← hw3]; exact (by repeat (first | (with_reducible exact X2) | (with_reducible refine Row5.alloc ?_ _) | (with_reducible refine Row5.drew ?_)))
  have R3 : Row5 w3 (w.heap.size + 1) (.bool false) (.int .u64 0) (.int .u64 0) (.int .u64 0) (.int .u64 0) := by rw [← hw3]; exact (by repeat (first | (with_reducible exact R2) | (with_reducible refine Row5.alloc ?_ _) | (with_reducible refine Row5.drew ?_)))
  clear X2 R2
  clear BW2
  clear hw3
  have lt_X := X3.lt
  have lt_R := R3.lt
  obtain ⟨Xc0, Xc1, Xc2, Xc3, Xc4⟩ := X3.parts
  obtain ⟨Xf0, Xf1, Xf2, Xf3, Xf4⟩ := X3.free
  go_region_held3 (fun w' => w'.cell? ⟨w.heap.size, 0, none⟩ = some (.bool false) ∧ w'.cell? ⟨w.heap.size, 1, none⟩ = some (.int .u64 (lb 0 x)) ∧ w'.cell? ⟨w.heap.size, 2, none⟩ = some (.int .u64 (lb 1 x)) ∧ w'.cell? ⟨w.heap.size, 3, none⟩ = some (.int .u64 (lb 2 x)) ∧ w'.cell? ⟨w.heap.size, 4, none⟩ = some (.int .u64 (lb 3 x)))
    ((refine Row5.parts ?_; (repeat (first | (with_reducible assumption) | (with_reducible refine Row5.alloc ?_ _) | (with_reducible refine Row5.drew ?_) | (with_reducible refine Row5.drewN ?_ _) | ((with_reducible refine Row5.set ?_ ?_ _); rotate_left; (focus (omega))))); done))
    (first | (go_at_call 45; (with_reducible refine (rsub (DR.keep (by repeat (first | (with_reducible exact Below.refl _ _) | (with_reducible refine bal ?_ _) | (with_reducible refine Below.drew ?_) | (with_reducible refine bdn ?_ _))) DX3) (DR.keep (by repeat (first | (with_reducible exact Below.refl _ _) | (with_reducible refine bal ?_ _) | (with_reducible refine Below.drew ?_) | (with_reducible refine bdn ?_ _))) (ten_new w3 1 (by decide) (by decide) 1 rfl)) L1.out hle).mono ?_); rintro e wa ⟨sa, rfl, hra, hba⟩; have ba : Below w.heap.size w wa := btr (by repeat (first | (with_reducible exact BW3) | (with_reducible refine bal ?_ _) | (with_reducible refine Below.drew ?_) | (with_reducible refine bdn ?_ _))) hba; have Xa : Row5 wa w.heap.size (.bool false) (.int .u64 (lb 0 x)) (.int .u64 (lb 1 x)) (.int .u64 (lb 2 x)) (.int .u64 (lb 3 x)) := Row5.keep hba (by repeat (first | (with_reducible exact X3) | (with_reducible refine Row5.alloc ?_ _) | (with_reducible refine Row5.drew ?_) | (with_reducible refine Row5.drewN ?_ _))); have Ra : Row5 wa (w.heap.size + 1) (.bool false) (.int .u64 0) (.int .u64 0) (.int .u64 0) (.int .u64 0) := Row5.keep hba (by repeat (first | (with_reducible exact R3) | (with_reducible refine Row5.alloc ?_ _) | (with_reducible refine Row5.drew ?_) | (with_reducible refine Row5.drewN ?_ _))); obtain ⟨xa0, xa1, xa2, xa3, xa4⟩ := Xa.parts) | (go_at_call 43; (with_reducible refine (KW.out _ _ (DR.keep (by repeat (first | (with_reducible exact Below.refl _ _) | (with_reducible refine bal ?_ _) | (with_reducible refine Below.drew ?_) | (with_reducible refine bdn ?_ _))) hra)).mono ?_); rintro e wb ⟨rfl, hbb⟩; have bb : Below w.heap.size w wb := btr (by repeat (first | (with_reducible exact ba) | (with_reducible refine bal ?_ _) | (with_reducible refine Below.drew ?_) | (with_reducible refine bdn ?_ _))) hbb; have Rb : Row5 wb (w.heap.size + 1) (.bool false) (.int .u64 0) (.int .u64 0) (.int .u64 0) (.int .u64 0) := Row5.keep hbb (by repeat (first | (with_reducible exact Ra) | (with_reducible refine Row5.alloc ?_ _) | (with_reducible refine Row5.drew ?_) | (with_reducible refine Row5.drewN ?_ _))); have Xb : Row5 wb w.heap.size (.bool false) (.int .u64 (lb 0 x)) (.int .u64 (lb 1 x)) (.int .u64 (lb 2 x)) (.int .u64 (lb 3 x)) := Row5.keep hbb (by repeat (first | (with_reducible exact Xa) | (with_reducible refine Row5.alloc ?_ _) | (with_reducible refine Row5.drew ?_) | (with_reducible refine Row5.drewN ?_ _))); obtain ⟨rb0, rb1, rb2, rb3, rb4⟩ := Rb.parts; obtain ⟨rg0, rg1, rg2, rg3, rg4⟩ := Rb.free; have ltb := Rb.lt; have ltc := Xb.lt; have nbx : ¬ w.heap.size + 1 = w.heap.size := by omega))
  all_goals
    go_wp2
    exact bodyPost_ret (v := .tuple #[.agg #[.bool h, .int .u64 y0, .int .u64 y1, .int .u64 y2, .int .u64 y3], .bool b]) (by simp [results, Tryd.results27, go_sem, rb0, rb1, rb2, rb3, rb4]) rfl ⟨rfl, by repeat (first | (with_reducible exact bb) | (with_reducible refine bal ?_ _) | (with_reducible refine Below.drew ?_) | (with_reducible refine bdn ?_ _) | ((with_reducible refine bsc ?_ ?_ _); rotate_left; (focus (simp only []; omega))))⟩
end Go.Proofs.YtjlgiejggcbgbaaDoor
end
section
namespace Go.Proofs.YtjlgiejggcbgbaaDoor
open Go.RowKit Go.Shelf
theorem Iz_pos (v : Nat) (h : v < 18446744073709551616) : Iz (v : Int) = .agg #[.bool false, .int .u64 (v : Int), .int .u64 0, .int .u64 0, .int .u64 0] := by
  rw [Iz_nat]
  unfold I5
  obtain ⟨l0, l1, l2, l3⟩ := lb_small (v := (v : Int)) (by omega) (by omega)
  rw [Int.natAbs_natCast] at l0 l1 l2 l3
  rw [l0, l1, l2, l3]
theorem Iz_minus (v : Nat) (h0 : v ≠ 0) (h : v < 18446744073709551616) : Iz (-(v : Int)) = .agg #[.bool true, .int .u64 (v : Int), .int .u64 0, .int .u64 0, .int .u64 0] := by
  rw [Iz_neg h0]
  unfold I5
  obtain ⟨l0, l1, l2, l3⟩ := lb_small (v := (v : Int)) (by omega) (by omega)
  rw [Int.natAbs_natCast] at l0 l1 l2 l3
  rw [l0, l1, l2, l3]

end Go.Proofs.YtjlgiejggcbgbaaDoor
end
section
namespace Go.Proofs.YtjlgiejggcbgbaaDoor
open Go.RowKit Go.Shelf
open Go.Sort (grow)
attribute [local go_sem ↓] eql_nat neq_nat eql_int5 neq_int5

end Go.Proofs.YtjlgiejggcbgbaaDoor
end
section
namespace Go.Proofs.YtjlgiejggcbgbaaDoor
open Go.RowKit Go.Shelf

theorem rmay_good (g : Bool) (x : Nat) (hx : x < 2 ^ 256) (h : ¬ (g = true ∧ x = 0)) (w : World) :
    Calls Tryd.prog 24 #[I5 g x] w fun e w' => e = .returned (.bool true) ∧ Below w.heap.size w w' := by
  cases g with
  | false => exact rmay_pos _ _ _ _ w
  | true =>
    have hm := rmay_neg (lb 0 x) (lb 1 x) (lb 2 x) (lb 3 x) w
    rw [show eq4 (lb 0 x) (lb 1 x) (lb 2 x) (lb 3 x) 0 0 0 0 = false from (eq4_of x 0 hx (by decide)).trans (decide_eq_false (fun h0 => h ⟨rfl, h0⟩))] at hm
    exact hm
theorem rmay_bad (w : World) :
    Calls Tryd.prog 24 #[I5 true 0] w fun e w' => e = .returned (.bool false) ∧ Below w.heap.size w w' := by
  have hm := rmay_neg 0 0 0 0 w
  rw [show eq4 0 0 0 0 0 0 0 0 = true by decide] at hm
  unfold I5
  simp only [lb_zero]
  exact hm
theorem znum_form (t : Int) : ∃ h y, y < 2 ^ 256 ∧ Znum t = .tuple #[I5 h y, .bool (decide (t.natAbs < 2 ^ 256))] := by
  by_cases ht : t.natAbs < 2 ^ 256
  · rw [decide_eq_true ht, Znum_of ht]; exact ⟨_, _, ht, rfl⟩
  · rw [decide_eq_false ht, Znum_Z5 ht]; exact ⟨false, 0, by decide, by unfold I5; simp only [lb_zero]⟩
theorem rwh_z {s : Value} {v : Nat} (g : Bool) (t : Int) (ht : t = if g then -(v : Int) else v) {w : World} (h : DR w s v) :
    Calls Tryd.prog 43 #[.bool g, s] w fun e w' => e = .returned (Znum t) ∧ Below w.heap.size w w' := by
  have hn : t.natAbs = v := by rw [ht]; split <;> omega
  have := rwh g h
  rw [← ht] at this
  unfold Znum
  rw [hn]
  exact this
theorem rstep_z (z : Int) (hz : z.natAbs < 2 ^ 256) (up : Bool) (t : Int) (ht : t = if up then z + 1 else z - 1) (w : World) :
    Calls Tryd.prog 27 #[Iz z, .bool up] w fun e w' => e = .returned (Znum t) ∧ Below w.heap.size w w' := by
  obtain ⟨h, y, hy, hf⟩ := znum_form t
  have key : ∀ (g : Bool) (v : Nat), t = (if g then -(v : Int) else v) → ∀ s' W, DR W s' v → Calls Tryd.prog 43 #[.bool g, s'] W fun e w' => e = .returned (.tuple #[I5 h y, .bool (decide (t.natAbs < 2 ^ 256))]) ∧ Below W.heap.size W w' := fun g v e s' W hD => by
    have := rwh_z g t e hD
    rw [hf] at this
    exact this
  rw [hf]
  have hl : ∀ n : Nat, n ≠ 0 → (((digs n).length : Int) == 0) = false := fun n hn => by have := digs_some hn; rw [beq_eq_false_iff_ne]; omega
  rcases sgn z with ⟨n, rfl⟩ | ⟨n, hn, rfl⟩
  · have hn2 : n < 2 ^ 256 := by omega
    have hm := fun W => rmay_good false n hn2 (fun h => by cases h.1) W
    rw [Iz_nat]
    by_cases h0 : n = 0
    · subst h0
      have hd : (((digs 0).length : Int) == 0) = true := by rw [digs_zero]; rfl
      exact rstep_zero false up 0 (by decide) hd h _ _ _ _ _ (key (!up) 1 (by rw [ht]; cases up <;> rfl)) w hm
    · cases up with
      | true => exact rstep_grow_false n hn2 (hl n h0) h _ _ _ _ _ (key false (n + 1) (by rw [ht]; simp)) w hm
      | false => exact rstep_less_false n hn2 (hl n h0) (by omega) h _ _ _ _ _ (key false (n - 1) (by rw [ht]; simp only [Bool.false_eq_true, if_false]; omega)) w hm
  · have hn2 : n < 2 ^ 256 := by omega
    have hm := fun W => rmay_good true n hn2 (fun h => hn h.2) W
    rw [Iz_neg hn]
    cases up with
    | false => exact rstep_grow_true n hn2 (hl n hn) h _ _ _ _ _ (key true (n + 1) (by rw [ht]; simp only [Bool.false_eq_true, if_false, if_true]; omega)) w hm
    | true => exact rstep_less_true n hn2 (hl n hn) (by omega) h _ _ _ _ _ (key true (n - 1) (by rw [ht]; simp only [if_true]; omega)) w hm
theorem rcv_cmpv (x y : Nat) : rcv x y = cmpv (x : Int) (y : Int) := by
  unfold cmpv rcv
  by_cases h : x < y
  · rw [if_pos h, if_pos (by omega)]
  · by_cases h2 : y < x
    · rw [if_neg h, if_pos h2, if_neg (by omega), if_neg (by omega)]
    · rw [if_neg h, if_neg h2, if_neg (by omega), if_pos (by omega)]
theorem cmpv_neg (x y : Int) : cmpv (-x) (-y) = -cmpv x y := by
  unfold cmpv
  split <;> split <;> (try split) <;> (try split) <;> omega
theorem rcmpint_z (y z : Int) (hy : y.natAbs < 2 ^ 256) (hz : z.natAbs < 2 ^ 256) (w : World) :
    Calls Tryd.prog 26 #[Iz y, Iz z] w fun e w' => e = .returned (.int .i64 (cmpv y z)) ∧ Below w.heap.size w w' := by
  rcases sgn y with ⟨n, rfl⟩ | ⟨n, hn, rfl⟩ <;> rcases sgn z with ⟨m, rfl⟩ | ⟨m, hm, rfl⟩
  · rw [Iz_nat, Iz_nat]
    exact rcmpint_ff n m (by omega) (by omega) _ (rcv_cmpv n m) w
  · rw [Iz_nat, Iz_neg hm, show cmpv (n : Int) (-(m : Int)) = 1 from by unfold cmpv; rw [if_neg (by omega), if_neg (by omega)]]
    exact rcmpint_ft n m w
  · rw [Iz_nat, Iz_neg hn, show cmpv (-(n : Int)) (m : Int) = -1 from by unfold cmpv; rw [if_pos (by omega)]]
    exact rcmpint_tf n m w
  · rw [Iz_neg hn, Iz_neg hm, cmpv_neg]
    refine rcmpint_tt n m (by omega) (by omega) _ _ (rcv_cmpv n m) ?_ w
    have : -1 ≤ cmpv (n : Int) (m : Int) ∧ cmpv (n : Int) (m : Int) ≤ 1 := by unfold cmpv; split <;> (try split) <;> omega
    rw [Go.IntWalk.i64_in _ (by omega)]
theorem rofint_z (v : Int) (h0 : -9223372036854775808 ≤ v) (h1 : v < 9223372036854775808) (w : World) :
    Calls Tryd.prog 20 #[.int .i64 v] w fun e w' => e = .returned (Iz v) ∧ Below w.heap.size w w' := by
  rcases sgn v with ⟨n, rfl⟩ | ⟨n, hn, rfl⟩
  · rw [Iz_pos n (by omega)]
    exact rofint_pos _ (by omega) h1 w
  · rw [Iz_minus n hn (by omega)]
    have := rofint_neg (-(n : Int)) _ _ (by omega) h0 rfl rfl w
    rw [Int.neg_neg] at this
    exact this
theorem znt_form (k : IntKind) (z : Int) (b : Bool) : Znt k z b = .tuple #[.int k (if b then z else 0), .bool b] := by
  unfold Znt; cases b <;> rfl
theorem eq5_own (c : Bool) (v : Nat) (h : v < 2 ^ 256) : eq5 c (lb 0 v) (lb 1 v) (lb 2 v) (lb 3 v) c (lb 0 v) (lb 1 v) (lb 2 v) (lb 3 v) = true := by
  rw [eq5_int c c v v h h]; exact decide_eq_true ⟨rfl, rfl⟩
end Go.Proofs.YtjlgiejggcbgbaaDoor
end
section
namespace Go.Proofs.YtjlgiejggcbgbaaDoor
open Go.RowKit Go.Shelf
attribute [local go_sem ↓] eql_nat neq_nat eql_int5 neq_int5

theorem rmay_i5 (g : Bool) (x : Nat) (hx : x < 2 ^ 256) (w : World) : Calls Tryd.prog 24 #[I5 g x] w fun e w' => e = .returned (.bool (!(g && decide (x = 0)))) ∧ Below w.heap.size w w' := by
  by_cases h : g = true ∧ x = 0
  · obtain ⟨rfl, rfl⟩ := h
    exact rmay_bad w
  · refine (rmay_good g x hx h w).mono ?_
    rintro e w' ⟨rfl, hb⟩
    refine ⟨ret_bool9 ?_, hb⟩
    cases g with
    | false => rfl
    | true => rw [decide_eq_false (fun h0 => h ⟨rfl, h0⟩)]; rfl
theorem mayR_parts {hl hh gl : Bool} {xl : Nat} {gh : Bool} {xh : Nat} (h1 : xl < 2 ^ 256) (h2 : xh < 2 ^ 256) {m1 m2 e1 e2 : Bool} (k1 : (!(gl && decide (xl = 0))) = m1) (k2 : (!(gh && decide (xh = 0))) = m2)
    (k3 : eq5 gl (lb 0 xl) (lb 1 xl) (lb 2 xl) (lb 3 xl) false 0 0 0 0 = e1) (k4 : eq5 gh (lb 0 xh) (lb 1 xh) (lb 2 xh) (lb 3 xh) false 0 0 0 0 = e2) : mayR ⟨hl, hh, gl, xl, gh, xh⟩ = (m1 && m2 && (hl || e1) && (hh || e2)) := by
  unfold eq5 at k3 k4
  rw [zq xl h1] at k3
  rw [zq xh h2] at k4
  unfold mayR mayE
  subst k1 k2 k3 k4
  cases hl <;> cases hh <;> cases gl <;> cases gh <;> cases decide (xl = 0) <;> cases decide (xh = 0) <;> rfl
theorem all_bad {l : List RS} {r : RS} (h : r ∈ l) (hr : mayR r = false) : l.all mayR = false := by
  rw [← Bool.not_eq_true]
  intro ha
  have := List.all_eq_true.1 ha r h
  rw [hr] at this
  cases this
theorem all_take9 {l : List RS} {k : Nat} {t : RS} (h : l[k]? = some t) : (l.take (k + 1)).all mayR = ((l.take k).all mayR && mayR t) := by
  obtain ⟨hk, rfl⟩ := List.getElem?_eq_some_iff.1 h
  rw [List.take_succ_eq_append_getElem hk, List.all_append]
  simp
theorem rlmay_long (la : Option Addr) (n lc : Nat) (w : World) (_hn : n ≤ 9223372036854775807) (h : (1000 : Int) < (n : Int)) : Calls Tryd.prog 7 #[.slice la n lc] w fun e w' => e = .returned (.bool false) ∧ Below w.heap.size w w' := by
  go_enter Tryd.func7, Tryd.ntmps7
  go_wp2
  go_ret
  exact ⟨rfl, Below.refl _ _⟩
set_option maxRecDepth 100000 in
set_option maxHeartbeats 8000000 in
theorem rlmay (la : Option Addr) (lc : Nat) (l : List RS) (bb off : Nat) (w : World) (hK : Ls w la l bb off) (hx : ∀ r ∈ l, r.xl < 2 ^ 256 ∧ r.xh < 2 ^ 256) :
    Calls Tryd.prog 7 #[.slice la l.length lc] w fun e w' => e = .returned (.bool (mayL l)) ∧ Below w.heap.size w w' := by
  have hn := hK.len
  by_cases hlong : (1000 : Int) < (l.length : Int)
  · have : mayL l = false := by unfold mayL; rw [decide_eq_false (by omega)]; rfl
    rw [this]
    exact rlmay_long la _ lc w hn hlong
  have HML : Hid (mayL l = l.all mayR) := Lib.hid (by unfold mayL; rw [decide_eq_true (by omega)]; rfl)
  have HK := Lib.hid hK; have HX := Lib.hid hx
  clear hK hx
  go_enter Tryd.func7, Tryd.ntmps7
  go_wp2
  go_loopw [3] (fun i wr => ∃ k : Nat, k ≤ l.length ∧ i = .int .i64 k ∧ Hid (Below w.heap.size w wr) ∧ Hid ((l.take k).all mayR = true)) (fun i _ => l.length - (intOf i).toNat)
  case atStart => exact ⟨0, Nat.zero_le _, rfl, Below.refl _ _, (show Hid _ from by show _ = _; simp)⟩
  case round =>
    obtain ⟨k, hk, rfl, BW, AN⟩ := hrel
    by_cases hlt : k < l.length
    · obtain ⟨t, ht, hm⟩ := span_at hlt
      have hr := (HK.out.cells k t ht).keep BW.out
      obtain rfl : la = some ⟨bb, off, none⟩ := HK.out.la (by omega)
      have hxx := HX.out t hm
      have HNX := Lib.hid (all_take9 ht)
      have HBAD := Lib.hid (all_bad hm)
      obtain ⟨hl, hh, gl, xl, gh, xh⟩ := t
      have k1 := fun W => rmay_i5 gl xl hxx.1 W
      have k2 := fun W => rmay_i5 gh xh hxx.2 W
      obtain ⟨m1, hm1⟩ : ∃ m, (!(gl && decide (xl = 0))) = m := ⟨_, rfl⟩
      obtain ⟨m2, hm2⟩ : ∃ m, (!(gh && decide (xh = 0))) = m := ⟨_, rfl⟩
      obtain ⟨e1, he1⟩ : ∃ m, eq5 gl (lb 0 xl) (lb 1 xl) (lb 2 xl) (lb 3 xl) false 0 0 0 0 = m := ⟨_, rfl⟩
      obtain ⟨e2, he2⟩ : ∃ m, eq5 gh (lb 0 xh) (lb 1 xh) (lb 2 xh) (lb 3 xh) false 0 0 0 0 = m := ⟨_, rfl⟩
      have HMR := Lib.hid (mayR_parts (hl := hl) (hh := hh) hxx.1 hxx.2 hm1 hm2 he1 he2)
      rw [hm1] at k1
      rw [hm2] at k2
      unfold I5 at k1 k2
      have K1 := Lib.hid k1; have K2 := Lib.hid k2
      obtain ⟨c0, c1, c2, c3, c4, c5, c6, c7, c8, c9, c10, c11⟩ := hr.twelve
      clear hr ht hm hm1 hm2 k1 k2 hxx
      go_wp2_with fail
      ((with_reducible refine (K1.out _).mono ?_); rintro e w1 ⟨rfl, hb⟩)
      have X1 := Row12.keep hb (Row12.new wr (.bool hl) (.bool hh) (.bool gl) (.int .u64 (lb 0 xl)) (.int .u64 (lb 1 xl)) (.int .u64 (lb 2 xl)) (.int .u64 (lb 3 xl)) (.bool gh) (.int .u64 (lb 0 xh)) (.int .u64 (lb 1 xh)) (.int .u64 (lb 2 xh)) (.int .u64 (lb 3 xh)))
      have B1 := Lib.hid (btr (bal BW.out _) hb)
      clear hb c0 c1 c2 c3 c4 c5 c6 c7 c8 c9 c10 c11
      obtain ⟨p0, p1, p2, p3, p4, p5, p6, p7, p8, p9, p10, p11⟩ := X1.parts
      cases m1 with
      | false =>
        go_wp2
        go_ret
        exact ⟨ret_bool9 (by rw [HML.out, HBAD.out (by rw [HMR.out]; rfl)]), B1.out⟩
      | true =>
        go_wp2_with fail
        ((with_reducible refine (K2.out _).mono ?_); rintro e w2 ⟨rfl, hb⟩)
        have X2 := Row12.keep hb X1
        have B2 := Lib.hid (btr B1.out hb)
        clear hb p0 p1 p2 p3 p4 p5 p6 p7 p8 p9 p10 p11 X1
        obtain ⟨p0, p1, p2, p3, p4, p5, p6, p7, p8, p9, p10, p11⟩ := X2.parts
        cases m2 with
        | false =>
          go_wp2
          go_ret
          exact ⟨ret_bool9 (by rw [HML.out, HBAD.out (by rw [HMR.out]; rfl)]), B2.out⟩
        | true =>
          cases hl <;> cases e1 <;> cases hh <;> cases e2
          all_goals
            go_wp2
            first
            | (go_ret; exact ⟨ret_bool9 (by rw [HML.out, HBAD.out (by rw [HMR.out]; rfl)]), B2.out⟩)
            | (go_roundw
               case rel => exact ⟨k + 1, by omega, by go_num, B2.out, (show Hid _ from by show _ = _; rw [HNX.out, AN.out, HMR.out]; rfl)⟩
               case measure => simp [intOf]; omega)
    · have hge : ¬ (k : Int) < (l.length : Int) := by omega
      have HF : Hid (mayL l = true) := by
        have := AN.out
        rw [List.take_of_length_le (by omega)] at this
        show _ = _
        rw [HML.out, this]
      go_wp2
      go_ret
      exact ⟨ret_bool9 HF.out.symm, BW.out⟩

end Go.Proofs.YtjlgiejggcbgbaaDoor
end
