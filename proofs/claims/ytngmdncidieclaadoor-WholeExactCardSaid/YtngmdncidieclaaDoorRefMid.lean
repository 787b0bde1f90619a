/-
  The reference's whole: the contract, for all numbers of at most 1000 digits of 32 bits. The reference's May, OfUint, OfInt: the contracts, for all whole numbers of a sign and four words. The reference's Less: the contract, for all numbers of at most 1000 digits of 32 bits, all divisors of 32 bits. Decimals as the reference reads them: plain arithmetic. For every text. The reference's Print, Digits, Parse: the contracts, for all numbers of at most 1000 digits of 32 bits, all texts of at most 500 bytes.
-/
import Derived.Test.YtngmdncidieclaaDoorRefNat
import Derived.Test.YtngmdncidieclaaDoorWholeE
import Derived.BigRegion
import Derived.RegionTactic
import Derived.Test.YtngmdncidieclaaDoorRefMulMath
import Derived.Test.YtngmdncidieclaaDoorNatShMath
import Derived.Test.YtngmdncidieclaaDoorNatDigit
import Derived.Test.YtngmdncidieclaaDoorNatPrintMath
import Derived.Test.YtngmdncidieclaaDoorRefApi
import Derived.Test.YtngmdncidieclaaDoorNatStr
import Derived.Test.YtngmdncidieclaaDoorNatParse
section
namespace Go.Proofs.YtngmdncidieclaaDoor
open Go.RowKit Go.Shelf
attribute [local go_sem ↓] eql_nat neq_nat eql_int5 neq_int5

set_option maxHeartbeats 1000000 in
set_option maxRecDepth 100000 in
theorem rwh_false (s : Value) (x0 x1 x2 x3 : Int) (w : World)
    (k1 : ∀ W, Below w.heap.size w W → Calls Tryd.prog 14 #[s] W fun e w' => e = .returned (.tuple #[.agg #[.int .u64 x0, .int .u64 x1, .int .u64 x2, .int .u64 x3], .bool true]) ∧ Below W.heap.size W w') :
    Calls Tryd.prog 85 #[.bool false, s] w fun e w' => e = .returned (.tuple #[.agg #[.bool false, .int .u64 x0, .int .u64 x1, .int .u64 x2, .int .u64 x3], .bool true]) ∧ Below w.heap.size w w' := by
  have K1 := Lib.hid k1; clear k1
  go_enter Tryd.func85, Tryd.ntmps85
  go_wp2_with fail
  refine (K1.out _ (by repeat (first | (with_reducible exact Below.refl _ _) | (with_reducible refine bal ?_ _) | (with_reducible refine Below.drew ?_) | (with_reducible refine bdn ?_ _)))).mono ?_
  rintro e w1 ⟨rfl, hb⟩
  have BW1 : Below w.heap.size w w1 := btr (by repeat (first | (with_reducible exact Below.refl _ _) | (with_reducible refine bal ?_ _) | (with_reducible refine Below.drew ?_) | (with_reducible refine bdn ?_ _))) hb
  have R1 : Row5 w1 w.heap.size (.bool false) (.int .u64 0) (.int .u64 0) (.int .u64 0) (.int .u64 0) := Row5.keep hb (by repeat (first | (with_reducible exact Row5.new _ _ _ _ _ _) | ((with_reducible refine Row5.new' _ ?_ _ _ _ _ _); (simp; done)) | (with_reducible refine Row5.alloc ?_ _) | (with_reducible refine Row5.drew ?_)))
  clear hb
  go_upto_region 4 with (fail)
  go_name_world w2 hw2
  have BW2 : Below w.heap.size w w2 := by rw [← hw2]; repeat (first | (with_reducible exact BW1) | (with_reducible refine bal ?_ _) | (with_reducible refine Below.drew ?_) | (with_reducible refine bdn ?_ _))
  have R2 : Row5 w2 w.heap.size (.bool false) (.int .u64 0) (.int .u64 0) (.int .u64 0) (.int .u64 0) := by rw [← hw2]; exact (by repeat (first | (with_reducible exact R1) | (with_reducible refine Row5.alloc ?_ _) | (with_reducible refine Row5.drew ?_)))
  have apN_R := R1.lt
  have apN_0 := (BW1).size
  have N2 : Row4 w2 w1.heap.size (.int .u64 x0) (.int .u64 x1) (.int .u64 x2) (.int .u64 x3) := by rw [← hw2]; exact (by repeat (first | (with_reducible exact Row4.new _ _ _ _ _) | ((with_reducible refine Row4.new' _ ?_ _ _ _ _); (simp; done)) | (with_reducible refine Row4.alloc ?_ _) | (with_reducible refine Row4.drew ?_)))
  clear R1
  clear BW1
  clear hw2
  obtain ⟨Rc0, Rc1, Rc2, Rc3, Rc4⟩ := R2.parts
  obtain ⟨Rf0, Rf1, Rf2, Rf3, Rf4⟩ := R2.free
  obtain ⟨Nc0, Nc1, Nc2, Nc3⟩ := N2.four
  obtain ⟨Nf0, Nf1, Nf2, Nf3⟩ := N2.free4
  have lt_R := R2.lt
  have lt_N := N2.lt
  have neRN : ¬ w1.heap.size = w.heap.size := by omega
  have neNR : ¬ w.heap.size = w1.heap.size := by omega
  go_region
  all_goals go_wp2
  all_goals exact bodyPost_ret (v := .tuple #[.agg #[.bool false, .int .u64 x0, .int .u64 x1, .int .u64 x2, .int .u64 x3], .bool true]) (by simp [results, Tryd.results85, go_sem, Rc0, Rc1, Rc2, Rc3, Rc4]) rfl ⟨rfl, by repeat (first | (with_reducible exact BW2) | (with_reducible refine bal ?_ _) | (with_reducible refine Below.drew ?_) | (with_reducible refine bdn ?_ _) | ((with_reducible refine bsc ?_ ?_ _); rotate_left; (focus (simp only []; omega))))⟩
set_option maxHeartbeats 1000000 in
set_option maxRecDepth 100000 in
theorem rwh_true (s : Value) (x0 x1 x2 x3 : Int) (w : World)
    (k1 : ∀ W, Below w.heap.size w W → Calls Tryd.prog 14 #[s] W fun e w' => e = .returned (.tuple #[.agg #[.int .u64 x0, .int .u64 x1, .int .u64 x2, .int .u64 x3], .bool true]) ∧ Below W.heap.size W w') :
    Calls Tryd.prog 85 #[.bool true, s] w fun e w' => e = .returned (.tuple #[.agg #[.bool (!eq4 x0 x1 x2 x3 0 0 0 0), .int .u64 x0, .int .u64 x1, .int .u64 x2, .int .u64 x3], .bool true]) ∧ Below w.heap.size w w' := by
  have K1 := Lib.hid k1; clear k1
  go_enter Tryd.func85, Tryd.ntmps85
  go_wp2_with fail
  refine (K1.out _ (by repeat (first | (with_reducible exact Below.refl _ _) | (with_reducible refine bal ?_ _) | (with_reducible refine Below.drew ?_) | (with_reducible refine bdn ?_ _)))).mono ?_
  rintro e w1 ⟨rfl, hb⟩
  have BW1 : Below w.heap.size w w1 := btr (by repeat (first | (with_reducible exact Below.refl _ _) | (with_reducible refine bal ?_ _) | (with_reducible refine Below.drew ?_) | (with_reducible refine bdn ?_ _))) hb
  have R1 : Row5 w1 w.heap.size (.bool false) (.int .u64 0) (.int .u64 0) (.int .u64 0) (.int .u64 0) := Row5.keep hb (by repeat (first | (with_reducible exact Row5.new _ _ _ _ _ _) | ((with_reducible refine Row5.new' _ ?_ _ _ _ _ _); (simp; done)) | (with_reducible refine Row5.alloc ?_ _) | (with_reducible refine Row5.drew ?_)))
  clear hb
  go_upto_region 4 with (fail)
  go_name_world w2 hw2
  have BW2 : Below w.heap.size w w2 := by rw [← hw2]; repeat (first | (with_reducible exact BW1) | (with_reducible refine bal ?_ _) | (with_reducible refine Below.drew ?_) | (with_reducible refine bdn ?_ _))
  have R2 : Row5 w2 w.heap.size (.bool false) (.int .u64 0) (.int .u64 0) (.int .u64 0) (.int .u64 0) := by rw [← hw2]; exact (by repeat (first | (with_reducible exact R1) | (with_reducible refine Row5.alloc ?_ _) | (with_reducible refine Row5.drew ?_)))
  have apN_R := R1.lt
  have apN_0 := (BW1).size
  have N2 : Row4 w2 w1.heap.size (.int .u64 x0) (.int .u64 x1) (.int .u64 x2) (.int .u64 x3) := by rw [← hw2]; exact (by repeat (first | (with_reducible exact Row4.new _ _ _ _ _) | ((with_reducible refine Row4.new' _ ?_ _ _ _ _); (simp; done)) | (with_reducible refine Row4.alloc ?_ _) | (with_reducible refine Row4.drew ?_)))
  clear R1
  clear BW1
  clear hw2
  obtain ⟨Rc0, Rc1, Rc2, Rc3, Rc4⟩ := R2.parts
  obtain ⟨Rf0, Rf1, Rf2, Rf3, Rf4⟩ := R2.free
  obtain ⟨Nc0, Nc1, Nc2, Nc3⟩ := N2.four
  obtain ⟨Nf0, Nf1, Nf2, Nf3⟩ := N2.free4
  have lt_R := R2.lt
  have lt_N := N2.lt
  have neRN : ¬ w1.heap.size = w.heap.size := by omega
  have neNR : ¬ w.heap.size = w1.heap.size := by omega
  go_region
  all_goals go_wp2
  all_goals exact bodyPost_ret (v := .tuple #[.agg #[.bool (!eq4 x0 x1 x2 x3 0 0 0 0), .int .u64 x0, .int .u64 x1, .int .u64 x2, .int .u64 x3], .bool true]) (by simp [results, Tryd.results85, go_sem, Rc0, Rc1, Rc2, Rc3, Rc4]) rfl ⟨rfl, by repeat (first | (with_reducible exact BW2) | (with_reducible refine bal ?_ _) | (with_reducible refine Below.drew ?_) | (with_reducible refine bdn ?_ _) | ((with_reducible refine bsc ?_ ?_ _); rotate_left; (focus (simp only []; omega))))⟩
set_option maxHeartbeats 1000000 in
set_option maxRecDepth 100000 in
theorem rwh_none (g : Bool) (s : Value) (x0 x1 x2 x3 : Int) (w : World)
    (k1 : ∀ W, Below w.heap.size w W → Calls Tryd.prog 14 #[s] W fun e w' => e = .returned (.tuple #[.agg #[.int .u64 x0, .int .u64 x1, .int .u64 x2, .int .u64 x3], .bool false]) ∧ Below W.heap.size W w') :
    Calls Tryd.prog 85 #[.bool g, s] w fun e w' => e = .returned (.tuple #[.agg #[.bool false, .int .u64 0, .int .u64 0, .int .u64 0, .int .u64 0], .bool false]) ∧ Below w.heap.size w w' := by
  have K1 := Lib.hid k1; clear k1
  go_enter Tryd.func85, Tryd.ntmps85
  go_wp2_with fail
  refine (K1.out _ (by repeat (first | (with_reducible exact Below.refl _ _) | (with_reducible refine bal ?_ _) | (with_reducible refine Below.drew ?_) | (with_reducible refine bdn ?_ _)))).mono ?_
  rintro e w1 ⟨rfl, hb⟩
  have BW1 : Below w.heap.size w w1 := btr (by repeat (first | (with_reducible exact Below.refl _ _) | (with_reducible refine bal ?_ _) | (with_reducible refine Below.drew ?_) | (with_reducible refine bdn ?_ _))) hb
  have R1 : Row5 w1 w.heap.size (.bool false) (.int .u64 0) (.int .u64 0) (.int .u64 0) (.int .u64 0) := Row5.keep hb (by repeat (first | (with_reducible exact Row5.new _ _ _ _ _ _) | ((with_reducible refine Row5.new' _ ?_ _ _ _ _ _); (simp; done)) | (with_reducible refine Row5.alloc ?_ _) | (with_reducible refine Row5.drew ?_)))
  clear hb
  go_upto_region 3 with (fail)
  go_name_world w2 hw2
  have BW2 : Below w.heap.size w w2 := by rw [← hw2]; repeat (first | (with_reducible exact BW1) | (with_reducible refine bal ?_ _) | (with_reducible refine Below.drew ?_) | (with_reducible refine bdn ?_ _))
  have R2 : Row5 w2 w.heap.size (.bool false) (.int .u64 0) (.int .u64 0) (.int .u64 0) (.int .u64 0) := by rw [← hw2]; exact (by repeat (first | (with_reducible exact R1) | (with_reducible refine Row5.alloc ?_ _) | (with_reducible refine Row5.drew ?_)))
  have apN_R := R1.lt
  have apN_0 := (BW1).size
  have N2 : Row4 w2 w1.heap.size (.int .u64 x0) (.int .u64 x1) (.int .u64 x2) (.int .u64 x3) := by rw [← hw2]; exact (by repeat (first | (with_reducible exact Row4.new _ _ _ _ _) | ((with_reducible refine Row4.new' _ ?_ _ _ _ _); (simp; done)) | (with_reducible refine Row4.alloc ?_ _) | (with_reducible refine Row4.drew ?_)))
  clear R1
  clear BW1
  clear hw2
  obtain ⟨Rc0, Rc1, Rc2, Rc3, Rc4⟩ := R2.parts
  obtain ⟨Rf0, Rf1, Rf2, Rf3, Rf4⟩ := R2.free
  go_wp2
  all_goals exact bodyPost_ret (v := .tuple #[.agg #[.bool false, .int .u64 0, .int .u64 0, .int .u64 0, .int .u64 0], .bool false]) (by simp [results, Tryd.results85, go_sem, Rc0, Rc1, Rc2, Rc3, Rc4]) rfl ⟨rfl, by repeat (first | (with_reducible exact BW2) | (with_reducible refine bal ?_ _) | (with_reducible refine Below.drew ?_) | (with_reducible refine bdn ?_ _) | ((with_reducible refine bsc ?_ ?_ _); rotate_left; (focus (simp only []; omega))))⟩
theorem Iz_sign (g : Bool) (v : Nat) (hv : v < 2 ^ 256) : I5 (g && !eq4 (lb 0 v) (lb 1 v) (lb 2 v) (lb 3 v) 0 0 0 0) v = Iz (if g then -(v : Int) else v) := by
  cases g
  · rw [Bool.false_and, if_neg (by decide), Iz_nat]
  · rw [Bool.true_and, if_pos rfl, zq v hv]
    by_cases h : v = 0
    · subst h; rfl
    · rw [Iz_neg h, decide_eq_false h]; rfl
/-- What the reference's whole answers. -/
theorem rwh {s : Value} {v : Nat} (g : Bool) {w : World} (h : DR w s v) :
    Calls Tryd.prog 85 #[.bool g, s] w fun e w' => e = .returned (if v < 2 ^ 256 then .tuple #[Iz (if g then -(v : Int) else v), .bool true] else .tuple #[Z5, .bool false]) ∧ Below w.heap.size w w' := by
  have k := fun (W : World) (hW : Below w.heap.size w W) => rnat (h.keep hW)
  by_cases hv : v < 2 ^ 256
  · rw [if_pos hv] at k ⊢
    rw [← Iz_sign g v hv]
    cases g
    · exact rwh_false s _ _ _ _ w k
    · exact rwh_true s _ _ _ _ w k
  · rw [if_neg hv] at k ⊢
    exact rwh_none g s _ _ _ _ w k
end Go.Proofs.YtngmdncidieclaaDoor
end
section
namespace Go.Proofs.YtngmdncidieclaaDoor
open Go.RowKit Go.Shelf
attribute [local go_sem ↓] eql_nat neq_nat eql_int5 neq_int5

theorem rmay_pos (x0 x1 x2 x3 : Int) (w : World) :
    Calls Tryd.prog 29 #[.agg #[.bool false, .int .u64 x0, .int .u64 x1, .int .u64 x2, .int .u64 x3]] w fun e w' => e = .returned (.bool true) ∧ Below w.heap.size w w' := by
  go_enter Tryd.func29, Tryd.ntmps29
  go_wp2
  go_ret
  exact ⟨rfl, by repeat (first | exact Below.refl _ _ | refine bal ?_ _ | refine Below.drew ?_ | refine bdn ?_ _)⟩
theorem rmay_neg (x0 x1 x2 x3 : Int) (w : World) :
    Calls Tryd.prog 29 #[.agg #[.bool true, .int .u64 x0, .int .u64 x1, .int .u64 x2, .int .u64 x3]] w fun e w' => e = .returned (.bool (!eq4 x0 x1 x2 x3 0 0 0 0)) ∧ Below w.heap.size w w' := by
  go_enter Tryd.func29, Tryd.ntmps29
  go_wp2
  go_ret
  exact ⟨rfl, by repeat (first | exact Below.refl _ _ | refine bal ?_ _ | refine Below.drew ?_ | refine bdn ?_ _)⟩
theorem rofuint (v : Int) (w : World) :
    Calls Tryd.prog 33 #[.int .u64 v] w fun e w' => e = .returned (.agg #[.bool false, .int .u64 v, .int .u64 0, .int .u64 0, .int .u64 0]) ∧ Below w.heap.size w w' := by
  go_enter Tryd.func33, Tryd.ntmps33
  go_wp2
  refine bodyPost_ret (v := .agg #[.bool false, .int .u64 v, .int .u64 0, .int .u64 0, .int .u64 0]) (by simp [results, Tryd.results33, go_sem]) rfl ⟨rfl, ?_⟩
  repeat (first | (with_reducible exact Below.refl _ _) | (with_reducible refine bal ?_ _) | (with_reducible refine Below.drew ?_) | (with_reducible refine bdn ?_ _) | ((with_reducible refine bsc ?_ ?_ _); rotate_left; (focus (simp only []; omega))))
theorem rofint_pos (v : Int) (h0 : ¬ v < 0) (h1 : v < 9223372036854775808) (w : World) :
    Calls Tryd.prog 31 #[.int .i64 v] w fun e w' => e = .returned (.agg #[.bool false, .int .u64 v, .int .u64 0, .int .u64 0, .int .u64 0]) ∧ Below w.heap.size w w' := by
  have w1 : IntKind.u64.wrap v = v := by rw [IntKind.wrap_u64]; omega
  go_enter Tryd.func31, Tryd.ntmps31
  go_wp2
  refine bodyPost_ret (v := .agg #[.bool false, .int .u64 v, .int .u64 0, .int .u64 0, .int .u64 0]) (by simp [results, Tryd.results31, go_sem]) rfl ⟨rfl, ?_⟩
  repeat (first | (with_reducible exact Below.refl _ _) | (with_reducible refine bal ?_ _) | (with_reducible refine Below.drew ?_) | (with_reducible refine bdn ?_ _) | ((with_reducible refine bsc ?_ ?_ _); rotate_left; (focus (simp only []; omega))))
theorem rofint_neg (v p q : Int) (h0 : v < 0) (h1 : -9223372036854775808 ≤ v) (hp : p = v + 1) (hq : q = -p) (w : World) :
    Calls Tryd.prog 31 #[.int .i64 v] w fun e w' => e = .returned (.agg #[.bool true, .int .u64 (-v), .int .u64 0, .int .u64 0, .int .u64 0]) ∧ Below w.heap.size w w' := by
  have w0 : IntKind.i64.wrap (v + 1) = p := by rw [Go.IntWalk.i64_in _ (by omega)]; omega
  have w1 : IntKind.i64.wrap (-p) = q := by rw [Go.IntWalk.i64_in _ (by omega)]; omega
  have w2 : IntKind.u64.wrap q = q := by rw [IntKind.wrap_u64]; omega
  have w3 : IntKind.u64.wrap (q + 1) = -v := by rw [IntKind.wrap_u64]; omega
  clear hp hq
  go_enter Tryd.func31, Tryd.ntmps31
  go_wp2
  refine bodyPost_ret (v := .agg #[.bool true, .int .u64 (-v), .int .u64 0, .int .u64 0, .int .u64 0]) (by simp [results, Tryd.results31, go_sem]) rfl ⟨rfl, ?_⟩
  repeat (first | (with_reducible exact Below.refl _ _) | (with_reducible refine bal ?_ _) | (with_reducible refine Below.drew ?_) | (with_reducible refine bdn ?_ _) | ((with_reducible refine bsc ?_ ?_ _); rotate_left; (focus (simp only []; omega))))
end Go.Proofs.YtngmdncidieclaaDoor
end
section
namespace Go.Proofs.YtngmdncidieclaaDoor
open Go.RowKit Go.Shelf

/-- A word out of two halves. -/
theorem word_or (c a s : Nat) (hc : c < 4294967296) (ha : a < 4294967296) (hs : s = c * 4294967296 + a) : bits .or .u64 (IntKind.u64.wrap ((c : Int) * 4294967296)) (a : Int) = (s : Int) := by
  have e0 : (4294967296 : Int) = 2 ^ 32 := by decide
  rw [e0, wrap_mul_pow]
  have e : c * 2 ^ 32 % 2 ^ 64 = 2 ^ 32 * c := by omega
  rw [e, u64_or_nat _ _ (by omega) (by omega), ← Nat.two_pow_add_eq_or_of_lt (i := 32) (b := a) (by omega) c]
  omega
/-- What holds at the head of Less's loop, k digits still to be divided. -/
def LessAt (x d n k c : Nat) (O : List Nat) : Prop :=
  O.length = n ∧ Sm O ∧ c = x / 2 ^ (32 * k) % d ∧ dval O = 2 ^ (32 * k) * (x / 2 ^ (32 * k) / d)
theorem LessAt.start {x d n : Nat} (hx : x < 2 ^ (32 * n)) : LessAt x d n n 0 (List.replicate n 0) :=
  ⟨by simp, Sm.zeros n, by rw [Nat.div_eq_of_lt hx, Nat.zero_mod], by rw [dval_zeros, Nat.div_eq_of_lt hx, Nat.zero_div, Nat.mul_zero]⟩
theorem LessAt.next {x d n i c : Nat} {O : List Nat} (hd : 0 < d) (hi : i < n) (h : LessAt x d n (i + 1) c O) {s : Nat} (hs : s = c * 4294967296 + x / 2 ^ (32 * i) % 4294967296) :
    s / d < 4294967296 ∧ LessAt x d n i (s % d) (O.set i (s / d)) := by
  obtain ⟨h1, h2, h3, h4⟩ := h
  have hc : c < d := by rw [h3]; exact Nat.mod_lt _ hd
  have hl := less_lt (x := x) (i := i) hd hc
  rw [← hs] at hl
  obtain ⟨s1, s2⟩ := less_step (x := x) (i := i) hd h3 rfl
  rw [← hs] at s1 s2
  have h0 : O.getD i 0 = 0 := by
    rw [← dval_get h2, h4, pow_step, Nat.mul_assoc, Nat.mul_div_cancel_left _ (Nat.two_pow_pos _), Nat.mul_mod_right]
  have e := dval_set O i (s / d) (by omega)
  rw [h0, Nat.mul_zero, Nat.add_zero, h4, pow_step, Nat.mul_assoc, ← Nat.mul_add] at e
  refine ⟨hl, by simp [h1], h2.set _ hl, s1.symm, ?_⟩
  rw [e, s2]
  rw [pow_step]
  congr 1
  omega
set_option maxHeartbeats 1000000 in
set_option maxRecDepth 100000 in
theorem rless_core (ba oa n ca d x : Nat) (hn : n = (digs x).length) (hn0 : 0 < n) (hn1 : n ≤ 1000) (hd0 : 0 < d) (hd1 : d < 4294967296) (w : World)
    (hba : ba < w.heap.size) (hx : Cs w ba oa (digs x)) :
    Calls Tryd.prog 80 #[.slice (some ⟨ba, oa, none⟩) n ca, .int .u32 (d : Int)] w fun e w' => ∃ s', e = .returned (.tuple #[s', .int .u32 ((x % d : Nat) : Int)]) ∧ DR w' s' (x / d) ∧ Below w.heap.size w w' := by
  have hmk := make_u32 n (by omega) (n : Int) rfl
  obtain ⟨M, hM⟩ : ∃ M, M = (U32s (List.replicate n 0)).toArray := ⟨_, rfl⟩
  rw [← hM] at hmk
  have HMM := Lib.hid hM; clear hM
  have HN := Lib.hid hn; have HX := Lib.hid hx; clear hn hx
  go_enter Tryd.func80, Tryd.ntmps80
  go_wp2
  go_loopw [7, 8] (fun c i wr => ∃ (k cc : Nat) (O : List Nat), c = .int .u64 (cc : Int) ∧ i = .int .i64 ((k : Int) - 1) ∧ k ≤ n ∧ Hid (LessAt x d n k cc O) ∧ Hid (Dk wr w.heap.size O) ∧ Below w.heap.size w wr)
    (fun _ i _ => (intOf i + 1).toNat)
  case atStart => exact ⟨n, 0, _, rfl, by (congr 1), Nat.le_refl _, LessAt.start (digs_len.1 (Nat.le_of_eq HN.out.symm)), (by show Dk _ _ _; rw [HMM.out]; exact Dk.new w _), bal (Below.refl _ _) _⟩
  case round =>
    obtain ⟨k, cc, O, rfl, rfl, hk, HI, HD, hbw⟩ := hrel
    obtain ⟨wo, rfl⟩ : ∃ wo : World, wo = wr := ⟨_, rfl⟩
    by_cases h0 : k = 0
    · subst h0
      obtain ⟨l1, l2, l3, l4⟩ := HI.out
      have hrd := HD.out.rd (by rw [l1]; omega)
      rw [l1] at hrd
      have ht := trim_dr hrd l2
      have hc : cc = x % d := by simpa using l3
      have hc1 : cc < d := by rw [hc]; exact Nat.mod_lt _ hd0
      have hv : dval O = x / d := by simpa using l4
      rw [hv] at ht
      have HT := Lib.hid ht; have HC := Lib.hid hc
      have w1 : IntKind.u32.wrap (cc : Int) = (cc : Int) := by rw [IntKind.wrap_u32]; omega
      clear ht hc hv l1 l2 l3 l4 hrd
      go_wp2_with fail
      refine HT.out.mono ?_
      rintro e w1 ⟨s', rfl, hr, hw⟩
      rw [hw]; clear hw w1
      go_wp2
      exact bodyPost_ret (v := .tuple #[s', .int .u32 (cc : Int)]) (by simp [results, Tryd.results80, go_sem]) rfl ⟨s', by rw [HC.out], hr, hbw⟩
    · obtain ⟨j, rfl⟩ : ∃ j, k = j + 1 := ⟨k - 1, by omega⟩
      obtain ⟨a, ha⟩ : ∃ a, a = x / 2 ^ (32 * j) % 4294967296 := ⟨_, rfl⟩
      have ha1 : a < 4294967296 := by omega
      have hcd : cc < d := by rw [HI.out.2.2.1]; exact Nat.mod_lt _ hd0
      obtain ⟨s, hs⟩ : ∃ s, s = cc * 4294967296 + a := ⟨_, rfl⟩
      have hs2 : s < 18446744073709551616 := by omega
      obtain ⟨hq1, hnext⟩ := HI.out.next hd0 (by omega) (s := s) (by rw [← ha]; exact hs)
      obtain ⟨q, hq⟩ : ∃ q, q = s / d := ⟨_, rfl⟩
      obtain ⟨r, hr⟩ : ∃ r, r = s % d := ⟨_, rfl⟩
      rw [← hq] at hq1
      rw [← hq, ← hr] at hnext
      have e1 : (((j + 1 : Nat) : Int) - 1) = (j : Int) := by omega
      have b0 : (0 : Int) ≤ (j : Int) := by omega
      have b1 : (j : Int) < (n : Int) := by omega
      have t1 : ((j : Int)).toNat = j := Int.toNat_natCast j
      have q2 : wo.cell? ⟨ba, oa + j, none⟩ = some (.int .u32 (a : Int)) := by
        rw [hbw.cell (p := ⟨ba, oa + j, none⟩) hba, HX.out j (by have := HN.out; omega), digs_get, ← ha]
      have f1 : wo.frozen? ⟨w.heap.size, j, none⟩ = false := HD.out.free j
      have o1 : wo.cell? ⟨w.heap.size, j, none⟩ = some (.int .u32 ((O.getD j 0 : Nat) : Int)) := HD.out.cell (by rw [HI.out.1]; omega)
      have w0 := word_or cc a s (by omega) ha1 hs
      have w1 : IntKind.u64.wrap (a : Int) = (a : Int) := by rw [IntKind.wrap_u64]; omega
      have w2 : IntKind.u64.wrap (d : Int) = (d : Int) := by rw [IntKind.wrap_u64]; omega
      have e3 : (s : Int) / (d : Int) = (q : Int) := by rw [hq, Int.natCast_ediv]
      have w3 : IntKind.u64.wrap (q : Int) = (q : Int) := by rw [IntKind.wrap_u64]; omega
      have e5 : (s : Int) % (d : Int) = (r : Int) := by rw [hr, Int.natCast_emod]
      have d0 : ((d : Int) == 0) = false := by rw [beq_eq_false_iff_ne]; omega
      have HNX := Lib.hid hnext
      rw [e1]
      clear hnext ha hs hq hr e1 hcd
      go_wp2
      go_roundw
      case rel => exact ⟨j, r, O.set j q, by rw [e5], by go_num, by omega, HNX.out, HD.out.set j _ _ rfl, bsc hbw (Nat.le_refl _) _⟩
      case measure => simp [intOf]
set_option maxHeartbeats 1000000 in
set_option maxRecDepth 100000 in
theorem rless_zero (A : Option Addr) (n ca d : Nat) (h0 : n = 0) (w : World) :
    Calls Tryd.prog 80 #[.slice A n ca, .int .u32 (d : Int)] w fun e w' => ∃ s', e = .returned (.tuple #[s', .int .u32 0]) ∧ DR w' s' 0 ∧ Below w.heap.size w w' := by
  have hmk := make_u32 n (by omega) (n : Int) rfl
  obtain ⟨M, hM⟩ : ∃ M, M = (U32s (List.replicate n 0)).toArray := ⟨_, rfl⟩
  rw [← hM] at hmk
  have hrd : Rd (w.alloc (.cells M 63)) (.slice (some ⟨w.heap.size, 0, none⟩) n n) (List.replicate n 0) := by
    rw [hM]
    have h := Dk.rd (Dk.new w (List.replicate n 0)) (by rw [List.length_replicate]; omega)
    rw [List.length_replicate] at h
    exact h
  have ht := trim_dr hrd (Sm.zeros n)
  rw [dval_zeros] at ht
  have hd : n ≤ 0 := by omega
  have hneg : ¬ (0 : Int) ≤ (n : Int) - 1 := by omega
  have hn9 : n ≤ 1000 := by omega
  have HT := Lib.hid ht; clear ht hrd hM h0
  go_enter Tryd.func80, Tryd.ntmps80
  go_wp2
  refine wp_loop_rounds 1 ?_
  rw [rounds_succ]
  go_wp2_with fail
  refine HT.out.mono ?_
  rintro e w1 ⟨s', rfl, hr, hw⟩
  rw [hw]; clear hw w1
  go_wp2
  exact bodyPost_ret (v := .tuple #[s', .int .u32 0]) (by simp [results, Tryd.results80, go_sem]) rfl ⟨s', rfl, hr, bal (Below.refl _ _) _⟩
theorem rless {s : Value} {x : Nat} {w : World} (hx : DR w s x) (lx : (digs x).length ≤ 1000) (d : Nat) (hd0 : 0 < d) (hd1 : d < 4294967296) :
    Calls Tryd.prog 80 #[s, .int .u32 (d : Int)] w fun e w' => ∃ s', e = .returned (.tuple #[s', .int .u32 ((x % d : Nat) : Int)]) ∧ DR w' s' (x / d) ∧ Below w.heap.size w w' := by
  by_cases h0 : (digs x).length = 0
  · obtain ⟨A, ca, rfl, _⟩ := hx.form
    have hx0 : x = 0 := by have := digs_len.1 (show (digs x).length ≤ 0 by omega); simpa using this
    have hz := rless_zero A _ ca d h0 w
    rw [show x / d = 0 from by rw [hx0, Nat.zero_div], show ((x % d : Nat) : Int) = 0 from by rw [hx0, Nat.zero_mod]; rfl]
    exact hz
  · rcases hx with ⟨h, _⟩ | ⟨b, off, c, rfl, hc, hlt, hcs⟩
    · rw [h] at h0; exact absurd rfl h0
    · exact rless_core b off _ c d x rfl (by omega) lx hd0 hd1 w hlt hcs
end Go.Proofs.YtngmdncidieclaaDoor
end
section
namespace Go.Proofs.YtngmdncidieclaaDoor

/-- A byte is a digit. -/
def isD (c : UInt8) : Prop := 48 ≤ c.toNat ∧ c.toNat ≤ 57
instance (c : UInt8) : Decidable (isD c) := by unfold isD; infer_instance
/-- What digits make of a number, however great. -/
def dgs : List UInt8 → Nat → Option Nat
  | [], x => some x
  | c :: l, x => if isD c then dgs l (x * 10 + (c.toNat - 48)) else none
theorem dgs_ge : ∀ (l : List UInt8) (x v : Nat), dgs l x = some v → x * 10 ^ l.length ≤ v
  | [], x, v, h => by simp only [dgs] at h; cases h; simp
  | c :: l, x, v, h => by
    simp only [dgs] at h
    split at h
    · have := dgs_ge l _ v h
      rw [List.length_cons, Nat.pow_succ, Nat.mul_comm (10 ^ l.length) 10, ← Nat.mul_assoc]
      exact Nat.le_trans (Nat.mul_le_mul_right _ (by omega)) this
    · cases h
theorem dgs_lt : ∀ (l : List UInt8) (x v : Nat), dgs l x = some v → v < (x + 1) * 10 ^ l.length
  | [], x, v, h => by simp only [dgs] at h; cases h; simp
  | c :: l, x, v, h => by
    simp only [dgs] at h
    split at h
    · rename_i hc
      have h2 := dgs_lt l _ v h
      unfold isD at hc
      rw [List.length_cons, Nat.pow_succ, Nat.mul_comm (10 ^ l.length) 10, ← Nat.mul_assoc]
      exact Nat.lt_of_lt_of_le h2 (Nat.mul_le_mul_right _ (by omega))
    · cases h
/-- What is below 2^256. -/
def capN (o : Option Nat) : Option Nat := match o with
  | some v => if v < 2 ^ 256 then some v else none
  | none => none
theorem capN_none : capN none = none := rfl
theorem capN_in {v : Nat} (h : v < 2 ^ 256) : capN (some v) = some v := by unfold capN; simp only; rw [if_pos h]
theorem capN_out {v : Nat} (h : ¬ v < 2 ^ 256) : capN (some v) = none := by unfold capN; simp only; rw [if_neg h]
theorem dfold_dgs : ∀ (l : List UInt8) (x : Nat), x < 2 ^ 256 → dfold l x = capN (dgs l x)
  | [], x, hx => by simp only [dfold, dgs]; rw [capN_in hx]
  | c :: l, x, hx => by
    simp only [dfold, dgs]
    by_cases hc : isD c
    · rw [if_pos hc]
      unfold isD at hc
      by_cases hb : x * 10 + (c.toNat - 48) < 2 ^ 256
      · have e : dstep x c = some (x * 10 + (c.toNat - 48)) := by unfold dstep; rw [if_pos ⟨hc.1, hc.2, hb⟩]
        rw [e]
        exact dfold_dgs l _ hb
      · have e : dstep x c = none := by unfold dstep; rw [if_neg (fun h => hb h.2.2)]
        rw [e]
        cases hd : dgs l (x * 10 + (c.toNat - 48)) with
        | none => rfl
        | some v =>
          have := dgs_ge _ _ _ hd
          have h1 : 1 ≤ 10 ^ l.length := Nat.pow_pos (by decide)
          have h2 : (x * 10 + (c.toNat - 48)) * 1 ≤ (x * 10 + (c.toNat - 48)) * 10 ^ l.length := Nat.mul_le_mul_left _ h1
          rw [capN_out (by omega)]
    · rw [if_neg hc]
      have e : dstep x c = none := by
        unfold dstep
        rw [if_neg (fun h => hc ⟨h.1, h.2.1⟩)]
      rw [e]
      rfl
/-- The number whose decimals a text is, as the reference says it. -/
theorem parseN_dgs (s : ByteArray) : parseN s = if s.size = 0 ∨ (1 < s.size ∧ s.data.toList.head? = some 48) then none else capN (dgs s.data.toList 0) := by
  unfold parseN
  split
  · rfl
  · exact dfold_dgs _ _ (by decide)
theorem parse_long (s : ByteArray) (h : 78 < s.size) : parseN s = none := by
  rw [parseN_dgs]
  split
  · rfl
  · rename_i hn
    have hl : s.data.toList.length = s.size := by simp
    cases hs : s.data.toList with
    | nil => rw [hs] at hl; simp at hl; omega
    | cons c l =>
      rw [hs, List.length_cons] at hl
      simp only [dgs]
      by_cases hc : isD c
      · rw [if_pos hc]
        have hc0 : c ≠ 48 := by
          intro h0
          apply hn
          refine .inr ⟨by omega, ?_⟩
          rw [hs, h0]; rfl
        have hc1 : c.toNat ≠ 48 := fun h0 => hc0 (UInt8.toNat_inj.1 (by rw [h0]; rfl))
        unfold isD at hc
        cases hd : dgs l (0 * 10 + (c.toNat - 48)) with
        | none => rfl
        | some v =>
          have h1 := dgs_ge _ _ _ hd
          have h2 : 1 * 10 ^ 78 ≤ (0 * 10 + (c.toNat - 48)) * 10 ^ l.length := Nat.mul_le_mul (by omega) (Nat.pow_le_pow_right (by decide) (by omega))
          have h3 : (2 : Nat) ^ 256 ≤ 1 * 10 ^ 78 := by decide
          rw [capN_out (by omega)]
      · rw [if_neg hc]; rfl
/-- Numbers of few decimals have few digits of 32 bits. -/
theorem ten_pow_le (n : Nat) : 10 ^ n ≤ 2 ^ (4 * n) := by
  rw [Nat.pow_mul]
  exact Nat.pow_le_pow_left (by decide) _
theorem dgs_step {s : List UInt8} {k x : Nat} (hk : k < s.length) (h : dgs (s.drop k) x = dgs s 0) : (isD s[k] → dgs (s.drop (k + 1)) (x * 10 + (s[k].toNat - 48)) = dgs s 0) ∧ (¬ isD s[k] → dgs s 0 = none) := by
  rw [List.drop_eq_getElem_cons hk] at h
  simp only [dgs] at h
  constructor
  · intro hc; rw [if_pos hc] at h; exact h
  · intro hc; rw [if_neg hc] at h; exact h.symm
/-- Decimals are built from the back. -/
theorem dec_cons (y : Nat) (h : 10 ≤ y) (l m : List UInt8) (e : l = Lib.decDigits y ++ m) : l = Lib.decDigits (y / 10) ++ (UInt8.ofNat (48 + y % 10) :: m) := by
  rw [e, dec_step h, List.append_assoc]; rfl
theorem dec_last (y : Nat) (h : y < 10) (l m : List UInt8) (e : l = Lib.decDigits y ++ m) : l = UInt8.ofNat (48 + y % 10) :: m := by
  rw [e, dec_small h, Nat.mod_eq_of_lt h]; rfl
theorem dec_isD : ∀ (n x : Nat), x < n → ∀ c ∈ Lib.decDigits x, isD c
  | 0, x, h => by omega
  | n + 1, x, h => by
    intro c hc
    by_cases h10 : x < 10
    · rw [dec_small h10, List.mem_singleton] at hc
      subst hc
      unfold isD
      rw [UInt8.toNat_ofNat']
      omega
    · rw [dec_step (by omega), List.mem_append, List.mem_singleton] at hc
      rcases hc with hc | hc
      · exact dec_isD n (x / 10) (by omega) c hc
      · subst hc
        unfold isD
        rw [UInt8.toNat_ofNat']
        omega
theorem dgs_app : ∀ (l m : List UInt8) (x : Nat), dgs (l ++ m) x = (match dgs l x with | some y => dgs m y | none => none)
  | [], m, x => by simp [dgs]
  | c :: l, m, x => by
    simp only [List.cons_append, dgs]
    split
    · exact dgs_app l m _
    · rfl
theorem dgs_dec : ∀ (n x : Nat), x < n → dgs (Lib.decDigits x) 0 = some x
  | 0, x, h => by omega
  | n + 1, x, h => by
    by_cases h10 : x < 10
    · rw [dec_small h10]
      have e : (UInt8.ofNat (48 + x)).toNat = 48 + x := by rw [UInt8.toNat_ofNat']; omega
      simp only [dgs]
      rw [if_pos (by unfold isD; omega), e]
      congr 1; omega
    · have e : (UInt8.ofNat (48 + x % 10)).toNat = 48 + x % 10 := by rw [UInt8.toNat_ofNat']; omega
      rw [dec_step (by omega), dgs_app, dgs_dec n (x / 10) (by omega)]
      simp only [dgs]
      rw [if_pos (by unfold isD; omega), e]
      congr 1; omega
theorem dec_head : ∀ (n x : Nat), x < n → x ≠ 0 → ∃ c l, Lib.decDigits x = c :: l ∧ c ≠ 48
  | 0, x, h, _ => by omega
  | n + 1, x, h, h0 => by
    by_cases h10 : x < 10
    · rw [dec_small h10]
      refine ⟨_, [], rfl, ?_⟩
      intro hc
      have := congrArg UInt8.toNat hc
      rw [UInt8.toNat_ofNat', show (48 : UInt8).toNat = 48 from rfl] at this
      omega
    · obtain ⟨c, l, hl, hc⟩ := dec_head n (x / 10) (by omega) (by omega)
      rw [dec_step (by omega), hl]
      exact ⟨c, _, rfl, hc⟩
/-- A number's decimals are read as it. -/
theorem parseN_dec {s : ByteArray} {x : Nat} (hs : s.data.toList = Lib.decDigits x) (hx : x < 2 ^ 256) : parseN s = some x := by
  have hl : s.data.toList.length = s.size := by simp
  have hp := dec_pos x
  rw [parseN_dgs, hs, dgs_dec (x + 1) x (by omega)]
  rw [hs] at hl
  rw [if_neg]
  · exact capN_in hx
  · rintro (h | ⟨h1, h2⟩)
    · omega
    · by_cases h0 : x = 0
      · subst h0
        rw [dec_small (by decide)] at hl
        simp at hl
        omega
      · obtain ⟨c, l, he, hc⟩ := dec_head (x + 1) x (by omega) h0
        rw [he] at h2
        exact hc (Option.some.inj h2)
/-- With a nought ahead it is none. -/
theorem parseN_nought {s : ByteArray} {l : List UInt8} (hs : s.data.toList = 48 :: l) (hl : l ≠ []) : parseN s = none := by
  have h := (show s.data.toList.length = s.size by simp)
  rw [hs, List.length_cons] at h
  unfold parseN
  rw [if_pos]
  refine .inr ⟨?_, by rw [hs]; rfl⟩
  have : 0 < l.length := List.length_pos_iff.2 hl
  omega
end Go.Proofs.YtngmdncidieclaaDoor
end
section
namespace Go.Proofs.YtngmdncidieclaaDoor
open Go.RowKit Go.Shelf

theorem digs_le {x y k : Nat} (h : y ≤ x) (hx : (digs x).length ≤ k) : (digs y).length ≤ k := digs_len.2 (Nat.lt_of_le_of_lt h (digs_len.1 hx))
theorem digs_some {x : Nat} (h : x ≠ 0) : 0 < (digs x).length := by rw [digs_pos h]; simp
/-- One byte as a text. -/
theorem byte_str (z : Nat) (Z : Int) (e : Z = (z : Int)) (W : World) : (convert 87 9 (.slice (some ⟨W.heap.size, 0, none⟩) 1 1)).run Tryd.prog (W.alloc (.cells #[.int .u8 Z] 5)) = .ok (.string ⟨#[UInt8.ofNat z]⟩) (W.alloc (.cells #[.int .u8 Z] 5)) := by
  subst e
  have h := run_convert_bytes_arg (P := Tryd.prog) (W.alloc (.cells #[.int .u8 (z : Int)] 5)) 87 5 (by kernel_rfl) (by kernel_rfl) W.heap.size 0 1 1 [(z : Int)] rfl (fun i hi => by
    obtain rfl : i = 0 := by omega
    exact cell_of_row _ W.heap.size 0 _ _ _ (heap_alloc_new W _)) 9 (by kernel_rfl)
  rw [h]
  rfl
/-- What stands at the head of Print's loop. -/
def PrAt (x y : Nat) (p : ByteArray) : Prop := if y = 0 then p.data.toList = Lib.decDigits x else Lib.decDigits x = Lib.decDigits y ++ p.data.toList
theorem PrAt.start {x : Nat} (h : x ≠ 0) : PrAt x x ⟨#[]⟩ := by unfold PrAt; rw [if_neg h]; simp
theorem PrAt.size {x y : Nat} {p : ByteArray} (h : PrAt x y p) (h0 : y ≠ 0) : p.size < (Lib.decDigits x).length := by
  unfold PrAt at h
  rw [if_neg h0] at h
  rw [h, List.length_append]
  have := dec_pos y
  have e : p.data.toList.length = p.size := by simp
  omega
theorem PrAt.next {x y : Nat} {p : ByteArray} (h : PrAt x y p) (h0 : y ≠ 0) : PrAt x (y / 10) (⟨#[UInt8.ofNat (48 + y % 10)]⟩ ++ p) := by
  unfold PrAt at h ⊢
  rw [if_neg h0] at h
  have e : (⟨#[UInt8.ofNat (48 + y % 10)]⟩ ++ p : ByteArray).data.toList = UInt8.ofNat (48 + y % 10) :: p.data.toList := by simp
  rw [e]
  by_cases h10 : y < 10
  · rw [if_pos (by omega)]; exact (dec_last y h10 _ _ h).symm
  · rw [if_neg (by omega)]; exact dec_cons y (by omega) _ _ h
theorem PrAt.stop {x : Nat} {p : ByteArray} (h : PrAt x 0 p) : p = dstr x := by
  unfold PrAt at h
  rw [if_pos rfl] at h
  exact dstr_of h
theorem dec_of_digs {x k : Nat} (hk : 1 ≤ k) (h : (digs x).length ≤ k) : (Lib.decDigits x).length ≤ 32 * k :=
  dec_len (by omega) (Nat.lt_of_lt_of_le (digs_len.1 h) (Nat.pow_le_pow_left (by decide) (32 * k)))
theorem dec_short {x : Nat} (lx : (digs x).length ≤ 1000) : (Lib.decDigits x).length ≤ 32000 := dec_of_digs (k := 1000) (by decide) lx
theorem digs_of_ten {k n x : Nat} (hx : x < 10 ^ k) (hk : 4 * k ≤ 32 * n) : (digs x).length ≤ n :=
  digs_len.2 (Nat.lt_of_lt_of_le hx (Nat.le_trans (ten_pow_le k) (Nat.pow_le_pow_right (by decide) hk)))
set_option maxHeartbeats 1000000 in
set_option maxRecDepth 100000 in
theorem rprint_core (A0 : Option Addr) (c0 n0 x : Nat) (hn : n0 = (digs x).length) (h0 : x ≠ 0) (lx : (digs x).length ≤ 1000) (w : World) (h : DR w (.slice A0 n0 c0) x) :
    Calls Tryd.prog 27 #[.slice A0 n0 c0] w fun e w' => e = .returned (.string (dstr x)) ∧ Below w.heap.size w w' := by
  obtain ⟨L, hL⟩ : ∃ L, L = (Lib.decDigits x).length := ⟨_, rfl⟩
  have hLs : L ≤ 32000 := by rw [hL]; exact dec_short lx
  obtain ⟨s0, hd0, ht⟩ := trim_keep h
  obtain ⟨A1, c1, rfl, _⟩ := hd0.form
  have hnz : (((digs x).length : Int) == 0) = false := by have := digs_some h0; rw [beq_eq_false_iff_ne]; omega
  obtain ⟨n1, hn1⟩ : ∃ n1, n1 = (digs x).length := ⟨_, rfl⟩
  rw [← hn1] at ht hd0 hnz
  have HT := Lib.hid ht; have HX := Lib.hid h; have HN := Lib.hid hn; have HL := Lib.hid hL; have H0 := Lib.hid h0; have LX := Lib.hid lx; clear ht h hn hL h0 lx hd0 hn1
  go_enter Tryd.func27, Tryd.ntmps27
  go_wp2_with fail
  (with_reducible refine (HT.out _ (Below.refl _ _)).mono ?_)
  rintro e w1 ⟨rfl, hw⟩
  rw [hw]; clear hw w1 HT
  go_wp2
  go_loopw [0, 3] (fun d v wr => ∃ (y n : Nat) (A : Option Addr) (c : Nat) (p : ByteArray), d = .slice A n c ∧ v = .string p ∧ Hid (n = (digs y).length) ∧ Hid (DR wr (.slice A n c) y) ∧ Hid (y ≤ x) ∧ Hid (PrAt x y p) ∧ Below w.heap.size w wr)
    (fun _ v _ => L + 1 - (match v with | .string t => t.size | _ => 0))
  case atStart => exact ⟨x, n0, A0, c0, ⟨#[]⟩, rfl, rfl, HN.out, HX.out, Nat.le_refl _, PrAt.start H0.out, Below.refl _ _⟩
  case round =>
    obtain ⟨y, n, A, c, p, rfl, rfl, HNY, HDY, HYX, HP, hbw⟩ := hrel
    rename World => wr
    by_cases hy : y = 0
    · have hn0 : n = 0 := by rw [HNY.out, hy, digs_zero]; rfl
      have hp : p = dstr x := by have := HP.out; rw [hy] at this; exact this.stop
      subst hn0 hp
      clear hy HNY HDY HYX HP
      go_wp2
      go_ret
      exact ⟨rfl, hbw⟩
    · have hn0 : 0 < (n : Int) := by have := digs_some hy; have := HNY.out; omega
      have hl : Calls Tryd.prog 80 #[.slice A n c, .int .u32 10] wr fun e w' => ∃ s', e = .returned (.tuple #[s', .int .u32 ((y % 10 : Nat) : Int)]) ∧ DR w' s' (y / 10) ∧ Below wr.heap.size wr w' := rless HDY.out (digs_le HYX.out LX.out) 10 (by decide) (by decide)
      obtain ⟨r, hr⟩ : ∃ r, r = y % 10 := ⟨_, rfl⟩
      rw [← hr] at hl
      have hr10 : r < 10 := by omega
      have HLS := Lib.hid hl
      have HNX : Hid (PrAt x (y / 10) (⟨#[UInt8.ofNat (48 + r)]⟩ ++ p)) := by rw [hr]; exact HP.out.next hy
      have hps := HP.out.size hy
      rw [← HL.out] at hps
      have w1 : IntKind.u8.wrap (r : Int) = (r : Int) := by rw [IntKind.wrap_u8]; omega
      have w2 : IntKind.u8.wrap (48 + (r : Int)) = 48 + (r : Int) := by rw [IntKind.wrap_u8]; omega
      have hcv := byte_str (48 + r) (48 + (r : Int)) (by omega)
      obtain ⟨z, hz⟩ : ∃ z, z = UInt8.ofNat (48 + r) := ⟨_, rfl⟩
      rw [← hz] at hcv HNX
      have hs1 : (⟨#[z]⟩ : ByteArray).size = 1 := rfl
      clear hz
      have hyx : Hid (y / 10 ≤ x) := Nat.le_trans (Nat.div_le_self _ _) HYX.out
      clear hl hr hy HP HYX HDY HNY
      go_wp2_with fail
      (with_reducible refine HLS.out.mono ?_)
      rintro e w2 ⟨s', rfl, hd, hb⟩
      obtain ⟨A2, c2, rfl, _⟩ := hd.form
      have HD2 := Lib.hid hd; have B2 := btr hbw hb
      clear hd hb
      go_wp2
      go_roundw
      case rel => exact ⟨y / 10, _, A2, c2, _, rfl, rfl, rfl, HD2.out.keep (by repeat (first | (with_reducible exact Below.refl _ _) | (with_reducible refine bal ?_ _) | (with_reducible refine Below.drew ?_) | (with_reducible refine bdn ?_ _))), hyx, HNX, by repeat (first | (with_reducible exact B2) | (with_reducible refine bal ?_ _) | (with_reducible refine Below.drew ?_) | (with_reducible refine bdn ?_ _))⟩
      case measure =>
        show L + 1 - (⟨#[z]⟩ ++ p : ByteArray).size < L + 1 - p.size
        rw [ByteArray.size_append, hs1]; omega
/-- What Print answers. -/
theorem rprint {s : Value} {x : Nat} {w : World} (h : DR w s x) (lx : (digs x).length ≤ 1000) :
    Calls Tryd.prog 27 #[s] w fun e w' => e = .returned (.string (dstr x)) ∧ Below w.heap.size w w' := by
  obtain ⟨A, c, rfl, _⟩ := h.form
  by_cases h0 : x = 0
  · subst h0
    obtain ⟨s0, hd0, ht⟩ := trim_keep h
    obtain ⟨A1, c1, rfl, _⟩ := hd0.form
    have e0 : (digs 0).length = 0 := by rw [digs_zero]; rfl
    rw [e0] at ht ⊢
    rw [show dstr 0 = ⟨#[48]⟩ from by unfold dstr; rw [dec_small (by decide)]; rfl]
    have HT := Lib.hid ht; clear ht h hd0
    go_enter Tryd.func27, Tryd.ntmps27
    go_wp2_with fail
    (with_reducible refine (HT.out _ (Below.refl _ _)).mono ?_)
    rintro e w1 ⟨rfl, hw⟩
    rw [hw]; clear hw w1 HT
    go_wp2
    go_ret
    exact ⟨rfl, Below.refl _ _⟩
  · exact rprint_core A c _ x rfl h0 lx w h
theorem ten_new (W : World) (z : Nat) (hz0 : z ≠ 0) (hz : z < 4294967296) (Z : Int) (e : Z = (z : Int)) : DR (W.alloc (.cells #[.int .u32 Z] 63)) (.slice (some ⟨W.heap.size, 0, none⟩) 1 1) z := by
  subst e
  have ed : digs z = [z] := by rw [digs_pos hz0, Nat.mod_eq_of_lt hz, Nat.div_eq_of_lt hz, digs_zero]
  unfold DR
  rw [ed]
  refine .inr ⟨W.heap.size, 0, 1, rfl, ⟨Nat.le_refl 1, by decide⟩, by simp, fun i hi => ?_⟩
  obtain rfl : i = 0 := by simp at hi; omega
  exact cell_of_row _ W.heap.size 0 _ _ _ (heap_alloc_new W _)
theorem digs_ten {k x : Nat} (hx : x < 10 ^ k) (hk : k ≤ 500) : (digs x).length ≤ 1000 := digs_of_ten (n := 1000) hx (by omega)
set_option maxHeartbeats 1000000 in
set_option maxRecDepth 100000 in
theorem rdigits_yes (s : ByteArray) (x : Nat) (hmax : s.size ≤ 500) (b : Bool) (hb : s.toList.isEmpty = b) (hall : dgs s.data.toList 0 = some x) (w : World) :
    Calls Tryd.prog 76 #[.string s] w fun e w' => ∃ s', e = .returned (.tuple #[s', .bool (!b)]) ∧ DR w' s' x ∧ Below w.heap.size w w' := by
  have HALL := Lib.hid hall; clear hall
  have hb2 : Hid (s.toList = [] ↔ b = true) := by show _ ↔ _; rw [← hb]; exact List.isEmpty_iff.symm
  go_enter Tryd.func76, Tryd.ntmps76
  go_wp2
  go_loopw [4, 5] (fun v i wr => ∃ (k y n : Nat) (A : Option Addr) (c : Nat), v = .slice A n c ∧ i = .int .i64 (k : Int) ∧ k ≤ s.size ∧ Hid (n = (digs y).length) ∧ Hid (DR wr (.slice A n c) y) ∧ Hid (y < 10 ^ k) ∧ Hid (dgs (s.data.toList.drop k) y = dgs s.data.toList 0) ∧ Below w.heap.size w wr)
    (fun _ i _ => s.size - (intOf i).toNat)
  case atStart => exact ⟨0, 0, 0, none, 0, rfl, rfl, Nat.zero_le _, (by show 0 = _; rw [digs_zero]; rfl), (by show DR _ _ _; unfold DR; rw [digs_zero]; exact .inl ⟨rfl, none, 0, rfl⟩), (by show 0 < 1; decide), (by show _ = _; rw [List.drop_zero]), Below.refl _ _⟩
  case round =>
    obtain ⟨k, y, n, A, c, rfl, rfl, hk, HNY, HDY, HYK, HDG, hbw⟩ := hrel
    rename World => wr
    by_cases hlt : k < s.size
    · have hkl : k < s.data.toList.length := by simpa using hlt
      have hst := dgs_step hkl HDG.out
      have eg : s.data.toList[k] = s[k] := rfl
      rw [eg] at hst
      by_cases hc : isD s[k]
      · have HNX := Lib.hid (hst.1 hc)
        obtain ⟨d, hd⟩ : ∃ d, d = s[k].toNat - 48 := ⟨_, rfl⟩
        rw [← hd] at HNX
        have hc1 : ¬ (s[k].toNat : Int) < 48 := by unfold isD at hc; omega
        have hc2 : ¬ 57 < (s[k].toNat : Int) := by unfold isD at hc; omega
        have hd9 : d < 10 := by unfold isD at hc; omega
        have w1 : IntKind.u8.wrap ((s[k].toNat : Int) - 48) = (d : Int) := by rw [IntKind.wrap_u8]; unfold isD at hc; omega
        have w2 : IntKind.u64.wrap (d : Int) = (d : Int) := by rw [IntKind.wrap_u64]; omega
        have L1 := Lib.hid (digs_ten HYK.out (by omega))
        have L2 := Lib.hid (digs_ten (k := 2) (show 10 < 10 ^ 2 by decide) (by decide))
        have L3 : Hid (y * 10 + d < 10 ^ (k + 1)) := by show _ < _; have := HYK.out; rw [Nat.pow_succ]; omega
        have L4 := Lib.hid (digs_ten (x := y * 10) (k := k + 1) (by have := L3.out; omega) (by omega))
        have L5 := Lib.hid (digs_ten (x := d) (k := 2) (by omega) (by decide))
        have hk0 : (0 : Int) ≤ (k : Int) := by omega
        have hk1 : (k : Int) < (s.size : Int) := by omega
        have HDD : Hid (d < 18446744073709551616) := by show _ < _; omega
        clear hc hst hd HNY HYK HDG
        go_upto_region 7 with (fail)
        go_region_held3 (fun _ => True)
          (trivial)
          (first | (go_at_call 71; (with_reducible refine (rmul (DR.keep (by repeat (first | (with_reducible exact Below.refl _ _) | (with_reducible refine bal ?_ _) | (with_reducible refine Below.drew ?_) | (with_reducible refine bdn ?_ _))) HDY.out) (DR.keep (by repeat (first | (with_reducible exact Below.refl _ _) | (with_reducible refine bal ?_ _) | (with_reducible refine Below.drew ?_) | (with_reducible refine bdn ?_ _))) (ten_new wr 10 (by decide) (by decide) 10 rfl)) L1.out L2.out).mono ?_); rintro e wa ⟨sa, rfl, hra, hba⟩; have ba : Below w.heap.size w wa := btr (by repeat (first | (with_reducible exact hbw) | (with_reducible refine bal ?_ _) | (with_reducible refine Below.drew ?_) | (with_reducible refine bdn ?_ _))) hba) | (go_at_call 110; (with_reducible refine (rsmall d HDD.out _).mono ?_); rintro e wb ⟨sb, rfl, hrb, hbb⟩; have hab : Below wa.heap.size wa wb := btr (by repeat (first | (with_reducible exact Below.refl _ _) | (with_reducible refine bal ?_ _) | (with_reducible refine Below.drew ?_) | (with_reducible refine bdn ?_ _))) hbb; have ha2 : DR wb sa (y * 10) := DR.keep hab hra; have bb : Below w.heap.size w wb := btr (by repeat (first | (with_reducible exact ba) | (with_reducible refine bal ?_ _) | (with_reducible refine Below.drew ?_) | (with_reducible refine bdn ?_ _))) hbb) | (go_at_call 86; (with_reducible refine (radd (DR.keep (by repeat (first | (with_reducible exact Below.refl _ _) | (with_reducible refine bal ?_ _) | (with_reducible refine Below.drew ?_) | (with_reducible refine bdn ?_ _))) ha2) (DR.keep (by repeat (first | (with_reducible exact Below.refl _ _) | (with_reducible refine bal ?_ _) | (with_reducible refine Below.drew ?_) | (with_reducible refine bdn ?_ _))) hrb) L4.out L5.out).mono ?_); rintro e wc ⟨sc, rfl, hrc, hbc⟩; have bc : Below w.heap.size w wc := btr (by repeat (first | (with_reducible exact bb) | (with_reducible refine bal ?_ _) | (with_reducible refine Below.drew ?_) | (with_reducible refine bdn ?_ _))) hbc))
        all_goals
          obtain ⟨A2, c2, rfl, _⟩ := hrc.form
          have HRC := Lib.hid hrc
          clear hrc hbc bb hbb hab ha2 hrb hba hra ba
          go_wp2
          go_roundw
          case rel => exact ⟨k + 1, y * 10 + d, _, A2, c2, rfl, by go_num, by omega, rfl, HRC.out.keep (by repeat (first | (with_reducible exact Below.refl _ _) | (with_reducible refine bal ?_ _) | (with_reducible refine Below.drew ?_) | (with_reducible refine bdn ?_ _))), L3, HNX, by repeat (first | (with_reducible exact bc) | (with_reducible refine bal ?_ _) | (with_reducible refine Below.drew ?_) | (with_reducible refine bdn ?_ _))⟩
          case measure => simp [intOf]; omega
      · have := hst.2 hc
        rw [HALL.out] at this
        cases this
    · have hv : dgs (s.data.toList.drop k) y = some y := by rw [List.drop_eq_nil_of_le (by simp; omega)]; rfl
      have hyx : y = x := by have := HDG.out; rw [hv, HALL.out] at this; exact Option.some.inj this
      subst hyx
      clear hv HDG
      go_wp2
      exact bodyPost_ret (v := .tuple #[.slice A n c, .bool (!b)]) (by simp [results, Tryd.results76, go_sem]) rfl ⟨_, rfl, HDY.out, hbw⟩
set_option maxHeartbeats 1000000 in
set_option maxRecDepth 100000 in
theorem rdigits_no (s : ByteArray) (hmax : s.size ≤ 500) (hall : dgs s.data.toList 0 = none) (w : World) :
    Calls Tryd.prog 76 #[.string s] w fun e w' => e = .returned (.tuple #[.slice none 0 0, .bool false]) ∧ Below w.heap.size w w' := by
  have HALL := Lib.hid hall; clear hall
  go_enter Tryd.func76, Tryd.ntmps76
  go_wp2
  go_loopw [4, 5] (fun v i wr => ∃ (k y n : Nat) (A : Option Addr) (c : Nat), v = .slice A n c ∧ i = .int .i64 (k : Int) ∧ k ≤ s.size ∧ Hid (n = (digs y).length) ∧ Hid (DR wr (.slice A n c) y) ∧ Hid (y < 10 ^ k) ∧ Hid (dgs (s.data.toList.drop k) y = dgs s.data.toList 0) ∧ Below w.heap.size w wr)
    (fun _ i _ => s.size - (intOf i).toNat)
  case atStart => exact ⟨0, 0, 0, none, 0, rfl, rfl, Nat.zero_le _, (by show 0 = _; rw [digs_zero]; rfl), (by show DR _ _ _; unfold DR; rw [digs_zero]; exact .inl ⟨rfl, none, 0, rfl⟩), (by show 0 < 1; decide), (by show _ = _; rw [List.drop_zero]), Below.refl _ _⟩
  case round =>
    obtain ⟨k, y, n, A, c, rfl, rfl, hk, HNY, HDY, HYK, HDG, hbw⟩ := hrel
    rename World => wr
    by_cases hlt : k < s.size
    · have hkl : k < s.data.toList.length := by simpa using hlt
      have hst := dgs_step hkl HDG.out
      have eg : s.data.toList[k] = s[k] := rfl
      rw [eg] at hst
      by_cases hc : isD s[k]
      · have HNX := Lib.hid (hst.1 hc)
        obtain ⟨d, hd⟩ : ∃ d, d = s[k].toNat - 48 := ⟨_, rfl⟩
        rw [← hd] at HNX
        have hc1 : ¬ (s[k].toNat : Int) < 48 := by unfold isD at hc; omega
        have hc2 : ¬ 57 < (s[k].toNat : Int) := by unfold isD at hc; omega
        have hd9 : d < 10 := by unfold isD at hc; omega
        have w1 : IntKind.u8.wrap ((s[k].toNat : Int) - 48) = (d : Int) := by rw [IntKind.wrap_u8]; unfold isD at hc; omega
        have w2 : IntKind.u64.wrap (d : Int) = (d : Int) := by rw [IntKind.wrap_u64]; omega
        have L1 := Lib.hid (digs_ten HYK.out (by omega))
        have L2 := Lib.hid (digs_ten (k := 2) (show 10 < 10 ^ 2 by decide) (by decide))
        have L3 : Hid (y * 10 + d < 10 ^ (k + 1)) := by show _ < _; have := HYK.out; rw [Nat.pow_succ]; omega
        have L4 := Lib.hid (digs_ten (x := y * 10) (k := k + 1) (by have := L3.out; omega) (by omega))
        have L5 := Lib.hid (digs_ten (x := d) (k := 2) (by omega) (by decide))
        have hk0 : (0 : Int) ≤ (k : Int) := by omega
        have hk1 : (k : Int) < (s.size : Int) := by omega
        have HDD : Hid (d < 18446744073709551616) := by show _ < _; omega
        clear hc hst hd HNY HYK HDG
        go_upto_region 7 with (fail)
        go_region_held3 (fun _ => True)
          (trivial)
          (first | (go_at_call 71; (with_reducible refine (rmul (DR.keep (by repeat (first | (with_reducible exact Below.refl _ _) | (with_reducible refine bal ?_ _) | (with_reducible refine Below.drew ?_) | (with_reducible refine bdn ?_ _))) HDY.out) (DR.keep (by repeat (first | (with_reducible exact Below.refl _ _) | (with_reducible refine bal ?_ _) | (with_reducible refine Below.drew ?_) | (with_reducible refine bdn ?_ _))) (ten_new wr 10 (by decide) (by decide) 10 rfl)) L1.out L2.out).mono ?_); rintro e wa ⟨sa, rfl, hra, hba⟩; have ba : Below w.heap.size w wa := btr (by repeat (first | (with_reducible exact hbw) | (with_reducible refine bal ?_ _) | (with_reducible refine Below.drew ?_) | (with_reducible refine bdn ?_ _))) hba) | (go_at_call 110; (with_reducible refine (rsmall d HDD.out _).mono ?_); rintro e wb ⟨sb, rfl, hrb, hbb⟩; have hab : Below wa.heap.size wa wb := btr (by repeat (first | (with_reducible exact Below.refl _ _) | (with_reducible refine bal ?_ _) | (with_reducible refine Below.drew ?_) | (with_reducible refine bdn ?_ _))) hbb; have ha2 : DR wb sa (y * 10) := DR.keep hab hra; have bb : Below w.heap.size w wb := btr (by repeat (first | (with_reducible exact ba) | (with_reducible refine bal ?_ _) | (with_reducible refine Below.drew ?_) | (with_reducible refine bdn ?_ _))) hbb) | (go_at_call 86; (with_reducible refine (radd (DR.keep (by repeat (first | (with_reducible exact Below.refl _ _) | (with_reducible refine bal ?_ _) | (with_reducible refine Below.drew ?_) | (with_reducible refine bdn ?_ _))) ha2) (DR.keep (by repeat (first | (with_reducible exact Below.refl _ _) | (with_reducible refine bal ?_ _) | (with_reducible refine Below.drew ?_) | (with_reducible refine bdn ?_ _))) hrb) L4.out L5.out).mono ?_); rintro e wc ⟨sc, rfl, hrc, hbc⟩; have bc : Below w.heap.size w wc := btr (by repeat (first | (with_reducible exact bb) | (with_reducible refine bal ?_ _) | (with_reducible refine Below.drew ?_) | (with_reducible refine bdn ?_ _))) hbc))
        all_goals
          obtain ⟨A2, c2, rfl, _⟩ := hrc.form
          have HRC := Lib.hid hrc
          clear hrc hbc bb hbb hab ha2 hrb hba hra ba
          go_wp2
          go_roundw
          case rel => exact ⟨k + 1, y * 10 + d, _, A2, c2, rfl, by go_num, by omega, rfl, HRC.out.keep (by repeat (first | (with_reducible exact Below.refl _ _) | (with_reducible refine bal ?_ _) | (with_reducible refine Below.drew ?_) | (with_reducible refine bdn ?_ _))), L3, HNX, by repeat (first | (with_reducible exact bc) | (with_reducible refine bal ?_ _) | (with_reducible refine Below.drew ?_) | (with_reducible refine bdn ?_ _))⟩
          case measure => simp [intOf]; omega
      · have hc1 : (s[k].toNat : Int) < 48 ∨ (¬ (s[k].toNat : Int) < 48 ∧ 57 < (s[k].toNat : Int)) := by unfold isD at hc; omega
        have hk0 : (0 : Int) ≤ (k : Int) := by omega
        have hk1 : (k : Int) < (s.size : Int) := by omega
        clear hc hst HNY HYK HDG
        rcases hc1 with hc1 | ⟨hc1, hc2⟩
        all_goals
          go_wp2
          exact bodyPost_ret (v := .tuple #[.slice none 0 0, .bool false]) (by simp [results, Tryd.results76, go_sem]) rfl ⟨rfl, hbw⟩
    · have hv : dgs (s.data.toList.drop k) y = some y := by rw [List.drop_eq_nil_of_le (by simp; omega)]; rfl
      have := HDG.out
      rw [hv, HALL.out] at this
      cases this
set_option maxRecDepth 100000 in
theorem rparse_long (s : ByteArray) (h : 100 < (s.size : Int)) (w : World) :
    Calls Tryd.prog 25 #[.string s] w fun e w' => e = .returned (.tuple #[N4 0, .bool false]) ∧ Below w.heap.size w w' := by
  go_enter Tryd.func25, Tryd.ntmps25
  go_wp2
  exact bodyPost_ret (v := .tuple #[N4 0, .bool false]) (by simp [results, Tryd.results25, go_sem, N4, lb_zero]) rfl ⟨rfl, by repeat (first | (with_reducible exact Below.refl _ _) | (with_reducible refine bal ?_ _) | (with_reducible refine Below.drew ?_) | (with_reducible refine bdn ?_ _) | ((with_reducible refine bsc ?_ ?_ _); rotate_left; (focus (simp only []; omega))))⟩
set_option maxRecDepth 100000 in
theorem rparse_nought (s : ByteArray) (hx : ¬ 100 < (s.size : Int)) (h1 : 1 < (s.size : Int)) (h1' : 0 < s.size) (h0 : ((s[0].toNat : Int) == 48) = true) (w : World) :
    Calls Tryd.prog 25 #[.string s] w fun e w' => e = .returned (.tuple #[N4 0, .bool false]) ∧ Below w.heap.size w w' := by
  go_enter Tryd.func25, Tryd.ntmps25
  go_wp2
  exact bodyPost_ret (v := .tuple #[N4 0, .bool false]) (by simp [results, Tryd.results25, go_sem, N4, lb_zero]) rfl ⟨rfl, by repeat (first | (with_reducible exact Below.refl _ _) | (with_reducible refine bal ?_ _) | (with_reducible refine Below.drew ?_) | (with_reducible refine bdn ?_ _) | ((with_reducible refine bsc ?_ ?_ _); rotate_left; (focus (simp only []; omega))))⟩
set_option maxRecDepth 100000 in
theorem rparse_no1 (s : ByteArray) (hx : ¬ 100 < (s.size : Int)) (h1 : ¬ 1 < (s.size : Int))
    (k1 : ∀ W, Calls Tryd.prog 76 #[.string s] W fun e w' => ∃ s', e = .returned (.tuple #[s', .bool false]) ∧ Below W.heap.size W w') (w : World) :
    Calls Tryd.prog 25 #[.string s] w fun e w' => e = .returned (.tuple #[N4 0, .bool false]) ∧ Below w.heap.size w w' := by
  have K1 := Lib.hid k1; clear k1
  go_enter Tryd.func25, Tryd.ntmps25
  go_wp2_with fail
  (with_reducible refine (K1.out _).mono ?_)
  rintro e w1 ⟨s', rfl, hb⟩
  have B1 : Below w.heap.size w w1 := btr (by repeat (first | (with_reducible exact Below.refl _ _) | (with_reducible refine bal ?_ _) | (with_reducible refine Below.drew ?_) | (with_reducible refine bdn ?_ _))) hb
  have R : Row4 w1 w.heap.size (.int .u64 0) (.int .u64 0) (.int .u64 0) (.int .u64 0) := Row4.keep hb (by repeat (first | (with_reducible exact Row4.new _ _ _ _ _) | (with_reducible refine Row4.drew ?_) | (with_reducible refine Row4.drewN ?_ _)))
  obtain ⟨c0, c1, c2, c3⟩ := R.four
  obtain ⟨f0, f1, f2, f3⟩ := R.free4
  clear hb
  go_wp2
  exact bodyPost_ret (v := .tuple #[N4 0, .bool false]) (by simp [results, Tryd.results25, go_sem, N4, lb_zero, c0, c1, c2, c3]) rfl ⟨rfl, by repeat (first | (with_reducible exact B1) | (with_reducible refine bal ?_ _) | (with_reducible refine Below.drew ?_) | (with_reducible refine bdn ?_ _) | ((with_reducible refine bsc ?_ ?_ _); rotate_left; (focus (simp only []; omega))))⟩
set_option maxRecDepth 100000 in
theorem rparse_yes1 (s : ByteArray) (x : Nat) (p : Bool) (y0 y1 y2 y3 : Int) (hx : ¬ 100 < (s.size : Int)) (h1 : ¬ 1 < (s.size : Int))
    (k1 : ∀ W, Calls Tryd.prog 76 #[.string s] W fun e w' => ∃ s', e = .returned (.tuple #[s', .bool true]) ∧ DR w' s' x ∧ Below W.heap.size W w')
    (k2 : ∀ s' W, DR W s' x → Calls Tryd.prog 14 #[s'] W fun e w' => e = .returned (.tuple #[.agg #[.int .u64 y0, .int .u64 y1, .int .u64 y2, .int .u64 y3], .bool p]) ∧ Below W.heap.size W w') (w : World) :
    Calls Tryd.prog 25 #[.string s] w fun e w' => e = .returned (.tuple #[.agg #[.int .u64 y0, .int .u64 y1, .int .u64 y2, .int .u64 y3], .bool p]) ∧ Below w.heap.size w w' := by
  have K1 := Lib.hid k1; have K2 := Lib.hid k2; clear k1 k2
  go_enter Tryd.func25, Tryd.ntmps25
  go_wp2_with fail
  (with_reducible refine (K1.out _).mono ?_)
  rintro e w1 ⟨s', rfl, hd, hb⟩
  have B1 : Below w.heap.size w w1 := btr (by repeat (first | (with_reducible exact Below.refl _ _) | (with_reducible refine bal ?_ _) | (with_reducible refine Below.drew ?_) | (with_reducible refine bdn ?_ _))) hb
  have R : Row4 w1 w.heap.size (.int .u64 0) (.int .u64 0) (.int .u64 0) (.int .u64 0) := Row4.keep hb (by repeat (first | (with_reducible exact Row4.new _ _ _ _ _) | (with_reducible refine Row4.drew ?_) | (with_reducible refine Row4.drewN ?_ _)))
  have HD := Lib.hid hd
  clear hb hd
  go_wp2_with fail
  (with_reducible refine (K2.out _ _ (DR.keep (by repeat (first | (with_reducible exact Below.refl _ _) | (with_reducible refine bal ?_ _) | (with_reducible refine Below.drew ?_) | (with_reducible refine bdn ?_ _))) HD.out)).mono ?_)
  rintro e w2 ⟨rfl, hb⟩
  have B2 : Below w.heap.size w w2 := btr (by repeat (first | (with_reducible exact B1) | (with_reducible refine bal ?_ _) | (with_reducible refine Below.drew ?_) | (with_reducible refine bdn ?_ _))) hb
  have R2 := Row4.keep hb (by repeat (first | (with_reducible exact R) | (with_reducible refine Row4.drew ?_) | (with_reducible refine Row4.drewN ?_ _)))
  clear hb R B1
  obtain ⟨c0, c1, c2, c3⟩ := R2.four
  obtain ⟨f0, f1, f2, f3⟩ := R2.free4
  go_wp2
  exact bodyPost_ret (v := .tuple #[.agg #[.int .u64 y0, .int .u64 y1, .int .u64 y2, .int .u64 y3], .bool p]) (by simp [results, Tryd.results25, go_sem, c0, c1, c2, c3]) rfl ⟨rfl, by repeat (first | (with_reducible exact B2) | (with_reducible refine bal ?_ _) | (with_reducible refine Below.drew ?_) | (with_reducible refine bdn ?_ _) | ((with_reducible refine bsc ?_ ?_ _); rotate_left; (focus (simp only []; omega))))⟩
set_option maxRecDepth 100000 in
theorem rparse_no2 (s : ByteArray) (hx : ¬ 100 < (s.size : Int)) (h1 : 1 < (s.size : Int)) (h1' : 0 < s.size) (h0 : ((s[0].toNat : Int) == 48) = false)
    (k1 : ∀ W, Calls Tryd.prog 76 #[.string s] W fun e w' => ∃ s', e = .returned (.tuple #[s', .bool false]) ∧ Below W.heap.size W w') (w : World) :
    Calls Tryd.prog 25 #[.string s] w fun e w' => e = .returned (.tuple #[N4 0, .bool false]) ∧ Below w.heap.size w w' := by
  have K1 := Lib.hid k1; clear k1
  go_enter Tryd.func25, Tryd.ntmps25
  go_wp2_with fail
  (with_reducible refine (K1.out _).mono ?_)
  rintro e w1 ⟨s', rfl, hb⟩
  have B1 : Below w.heap.size w w1 := btr (by repeat (first | (with_reducible exact Below.refl _ _) | (with_reducible refine bal ?_ _) | (with_reducible refine Below.drew ?_) | (with_reducible refine bdn ?_ _))) hb
  have R : Row4 w1 w.heap.size (.int .u64 0) (.int .u64 0) (.int .u64 0) (.int .u64 0) := Row4.keep hb (by repeat (first | (with_reducible exact Row4.new _ _ _ _ _) | (with_reducible refine Row4.drew ?_) | (with_reducible refine Row4.drewN ?_ _)))
  obtain ⟨c0, c1, c2, c3⟩ := R.four
  obtain ⟨f0, f1, f2, f3⟩ := R.free4
  clear hb
  go_wp2
  exact bodyPost_ret (v := .tuple #[N4 0, .bool false]) (by simp [results, Tryd.results25, go_sem, N4, lb_zero, c0, c1, c2, c3]) rfl ⟨rfl, by repeat (first | (with_reducible exact B1) | (with_reducible refine bal ?_ _) | (with_reducible refine Below.drew ?_) | (with_reducible refine bdn ?_ _) | ((with_reducible refine bsc ?_ ?_ _); rotate_left; (focus (simp only []; omega))))⟩
set_option maxRecDepth 100000 in
theorem rparse_yes2 (s : ByteArray) (x : Nat) (p : Bool) (y0 y1 y2 y3 : Int) (hx : ¬ 100 < (s.size : Int)) (h1 : 1 < (s.size : Int)) (h1' : 0 < s.size) (h0 : ((s[0].toNat : Int) == 48) = false)
    (k1 : ∀ W, Calls Tryd.prog 76 #[.string s] W fun e w' => ∃ s', e = .returned (.tuple #[s', .bool true]) ∧ DR w' s' x ∧ Below W.heap.size W w')
    (k2 : ∀ s' W, DR W s' x → Calls Tryd.prog 14 #[s'] W fun e w' => e = .returned (.tuple #[.agg #[.int .u64 y0, .int .u64 y1, .int .u64 y2, .int .u64 y3], .bool p]) ∧ Below W.heap.size W w') (w : World) :
    Calls Tryd.prog 25 #[.string s] w fun e w' => e = .returned (.tuple #[.agg #[.int .u64 y0, .int .u64 y1, .int .u64 y2, .int .u64 y3], .bool p]) ∧ Below w.heap.size w w' := by
  have K1 := Lib.hid k1; have K2 := Lib.hid k2; clear k1 k2
  go_enter Tryd.func25, Tryd.ntmps25
  go_wp2_with fail
  (with_reducible refine (K1.out _).mono ?_)
  rintro e w1 ⟨s', rfl, hd, hb⟩
  have B1 : Below w.heap.size w w1 := btr (by repeat (first | (with_reducible exact Below.refl _ _) | (with_reducible refine bal ?_ _) | (with_reducible refine Below.drew ?_) | (with_reducible refine bdn ?_ _))) hb
  have R : Row4 w1 w.heap.size (.int .u64 0) (.int .u64 0) (.int .u64 0) (.int .u64 0) := Row4.keep hb (by repeat (first | (with_reducible exact Row4.new _ _ _ _ _) | (with_reducible refine Row4.drew ?_) | (with_reducible refine Row4.drewN ?_ _)))
  have HD := Lib.hid hd
  clear hb hd
  go_wp2_with fail
  (with_reducible refine (K2.out _ _ (DR.keep (by repeat (first | (with_reducible exact Below.refl _ _) | (with_reducible refine bal ?_ _) | (with_reducible refine Below.drew ?_) | (with_reducible refine bdn ?_ _))) HD.out)).mono ?_)
  rintro e w2 ⟨rfl, hb⟩
  have B2 : Below w.heap.size w w2 := btr (by repeat (first | (with_reducible exact B1) | (with_reducible refine bal ?_ _) | (with_reducible refine Below.drew ?_) | (with_reducible refine bdn ?_ _))) hb
  have R2 := Row4.keep hb (by repeat (first | (with_reducible exact R) | (with_reducible refine Row4.drew ?_) | (with_reducible refine Row4.drewN ?_ _)))
  clear hb R B1
  obtain ⟨c0, c1, c2, c3⟩ := R2.four
  obtain ⟨f0, f1, f2, f3⟩ := R2.free4
  go_wp2
  exact bodyPost_ret (v := .tuple #[.agg #[.int .u64 y0, .int .u64 y1, .int .u64 y2, .int .u64 y3], .bool p]) (by simp [results, Tryd.results25, go_sem, c0, c1, c2, c3]) rfl ⟨rfl, by repeat (first | (with_reducible exact B2) | (with_reducible refine bal ?_ _) | (with_reducible refine Below.drew ?_) | (with_reducible refine bdn ?_ _) | ((with_reducible refine bsc ?_ ?_ _); rotate_left; (focus (simp only []; omega))))⟩
theorem pend_no {s : ByteArray} (h : parseN s = none) {w : World} {r : Value} (e : r = .tuple #[N4 0, .bool false]) (k : Calls Tryd.prog 25 #[.string s] w fun e w' => e = .returned r ∧ Below w.heap.size w w') :
    Calls Tryd.prog 25 #[.string s] w fun e w' => ParseEnd s e ∧ Below w.heap.size w w' := by
  refine k.mono ?_
  rintro e' w' ⟨rfl, hb⟩
  refine ⟨?_, hb⟩
  unfold ParseEnd
  rw [h, e]
  simp only [N4, lb_zero]
/-- The reference's Parse. -/
theorem rparse (s : ByteArray) (hmax : s.size ≤ 500) (w : World) :
    Calls Tryd.prog 25 #[.string s] w fun e w' => ParseEnd s e ∧ Below w.heap.size w w' := by
  have hlen : s.data.toList.length = s.size := by simp
  by_cases hx : 100 < s.size
  · exact pend_no (parse_long s (by omega)) rfl (rparse_long s (by omega) w)
  · have hx2 : ¬ 100 < (s.size : Int) := by omega
    have hkey : ∀ (h : 1 < s.size → s.data.toList.head? ≠ some 48), Calls Tryd.prog 25 #[.string s] w fun e w' => ParseEnd s e ∧ Below w.heap.size w w' := by
      intro h
      have hpn : parseN s = if s.size = 0 then none else capN (dgs s.data.toList 0) := by
        rw [parseN_dgs]
        by_cases hz : s.size = 0
        · rw [if_pos (.inl hz), if_pos hz]
        · rw [if_neg (by rintro (h1 | ⟨h1, h2⟩); exact hz h1; exact h h1 h2), if_neg hz]
      have hem : s.toList.isEmpty = decide (s.size = 0) := by
        rw [toList_data]
        cases hs : s.data.toList with
        | nil => rw [hs] at hlen; simp at hlen; simp [← hlen]
        | cons c l => rw [hs] at hlen; simp at hlen; simp [← hlen]
      have hh : ∀ h1' : 0 < s.size, s.data.toList.head? = some s[0] := by
        intro h1'
        cases hs : s.data.toList with
        | nil => rw [hs] at hlen; simp at hlen; omega
        | cons c l =>
          have : s[0] = s.data.toList[0]'(by omega) := rfl
          rw [this]
          simp [hs]
      have h0 : ∀ h1' : 0 < s.size, 1 < s.size → ((s[0].toNat : Int) == 48) = false := by
        intro h1' h2
        rw [beq_eq_false_iff_ne]
        intro h3
        exact h h2 (by rw [hh h1']; exact congrArg some (UInt8.toNat_inj.1 (by rw [show (48 : UInt8).toNat = 48 from rfl]; omega)))
      cases hd : dgs s.data.toList 0 with
      | none =>
        have hn : parseN s = none := by rw [hpn, hd]; split <;> rfl
        have k1 : ∀ W, Calls Tryd.prog 76 #[.string s] W fun e w' => ∃ s', e = .returned (.tuple #[s', .bool false]) ∧ Below W.heap.size W w' := fun W => (rdigits_no s hmax hd W).mono (fun e w' h => ⟨_, h.1, h.2⟩)
        by_cases h1 : 1 < s.size
        · exact pend_no hn rfl (rparse_no2 s hx2 (by omega) (by omega) (h0 (by omega) h1) k1 w)
        · exact pend_no hn rfl (rparse_no1 s hx2 (by omega) k1 w)
      | some x =>
        have k0 := fun W => rdigits_yes s x hmax _ hem hd W
        by_cases hz : s.size = 0
        · rw [decide_eq_true hz] at k0
          have hn : parseN s = none := by rw [hpn, if_pos hz]
          exact pend_no hn rfl (rparse_no1 s hx2 (by omega) (fun W => (k0 W).mono (fun e w' ⟨s', h1, _, h2⟩ => ⟨s', h1, h2⟩)) w)
        · rw [decide_eq_false hz] at k0
          rw [hd, if_neg hz] at hpn
          by_cases hv : x < 2 ^ 256
          · rw [capN_in hv] at hpn
            have k2 : ∀ s' W, DR W s' x → Calls Tryd.prog 14 #[s'] W fun e w' => e = .returned (.tuple #[.agg #[.int .u64 (lb 0 x), .int .u64 (lb 1 x), .int .u64 (lb 2 x), .int .u64 (lb 3 x)], .bool true]) ∧ Below W.heap.size W w' := fun s' W hD => by
              have := rnat hD
              rw [if_pos hv] at this
              exact this
            have hfin : ∀ {w : World}, (Calls Tryd.prog 25 #[.string s] w fun e w' => e = .returned (.tuple #[.agg #[.int .u64 (lb 0 x), .int .u64 (lb 1 x), .int .u64 (lb 2 x), .int .u64 (lb 3 x)], .bool true]) ∧ Below w.heap.size w w') → Calls Tryd.prog 25 #[.string s] w fun e w' => ParseEnd s e ∧ Below w.heap.size w w' := fun k => by
              refine k.mono ?_
              rintro e' w' ⟨rfl, hb⟩
              refine ⟨?_, hb⟩
              unfold ParseEnd
              rw [hpn]
            by_cases h1 : 1 < s.size
            · exact hfin (rparse_yes2 s x true _ _ _ _ hx2 (by omega) (by omega) (h0 (by omega) h1) k0 k2 w)
            · exact hfin (rparse_yes1 s x true _ _ _ _ hx2 (by omega) k0 k2 w)
          · rw [capN_out hv] at hpn
            have k2 : ∀ s' W, DR W s' x → Calls Tryd.prog 14 #[s'] W fun e w' => e = .returned (.tuple #[.agg #[.int .u64 (lb 0 0), .int .u64 (lb 1 0), .int .u64 (lb 2 0), .int .u64 (lb 3 0)], .bool false]) ∧ Below W.heap.size W w' := fun s' W hD => by
              have := rnat hD
              rw [if_neg hv] at this
              exact this
            by_cases h1 : 1 < s.size
            · exact pend_no hpn rfl (rparse_yes2 s x false _ _ _ _ hx2 (by omega) (by omega) (h0 (by omega) h1) k0 k2 w)
            · exact pend_no hpn rfl (rparse_yes1 s x false _ _ _ _ hx2 (by omega) k0 k2 w)
    by_cases hz : 1 < s.size ∧ s.data.toList.head? = some 48
    · have hh : s[0]'(by omega) = 48 := by
        have h1 := hz.2
        cases hs : s.data.toList with
        | nil => rw [hs] at h1; cases h1
        | cons c l =>
          rw [hs] at h1
          have : s[0]'(by omega) = s.data.toList[0]'(by omega) := rfl
          rw [this]
          simp only [hs, List.getElem_cons_zero]
          exact Option.some.inj h1
      refine pend_no ?_ rfl (rparse_nought s hx2 (by omega) (by omega) (by rw [hh]; rfl) w)
      unfold parseN
      rw [if_pos (.inr hz)]
    · exact hkey (fun h1 h2 => hz ⟨h1, h2⟩)
end Go.Proofs.YtngmdncidieclaaDoor
end
