/-
  entrepotlaw1.NatSums: two, and the walk. The table internal/strconv.uint64pow10 reads as its initialiser lays it.
-/
import Derived.Test.YtpnlmikjcpjjmaaDoorDivsWalk
import Derived.Test.YtpnlmikjcpjjmaaDoorRefNat
import Derived.Test.YtpnlmikjcpjjmaaDoorNatMul
import Derived.Test.YtpnlmikjcpjjmaaDoorNatAdd
namespace Go.Proofs.YtpnlmikjcpjjmaaDoor
open Go.RowKit Go.Shelf
attribute [local go_sem ↓] eql_nat neq_nat

set_option maxHeartbeats 1000000 in
set_option maxRecDepth 100000 in
theorem two_core (x0 x1 x2 x3 : Int) (p : Bool) (s : Value) (w : World) (hq : eq4 x0 x1 x2 x3 x0 x1 x2 x3 = true)
    (k1 : ∀ W, Below w.heap.size w W → Calls Tryd.prog 34 #[s] W fun e w' => e = .returned (.tuple #[.agg #[.int .u64 x0, .int .u64 x1, .int .u64 x2, .int .u64 x3], .bool p]) ∧ Below W.heap.size W w') :
    Calls Tryd.prog 22 #[.agg #[.int .u64 x0, .int .u64 x1, .int .u64 x2, .int .u64 x3], .bool p, s] w fun e w' => e = .returned (.bool true) ∧ Below w.heap.size w w' := by
  have K1 := Lib.hid k1; have HQ := Lib.hid hq; clear k1 hq
  go_enter Tryd.func22, Tryd.ntmps22
  go_wp2_with fail
  refine (K1.out _ (by repeat (first | (with_reducible exact Below.refl _ _) | (with_reducible refine bal ?_ _) | (with_reducible refine Below.drew ?_) | (with_reducible refine bdn ?_ _)))).mono ?_
  rintro e w1 ⟨rfl, hb⟩
  have BW1 : Below w.heap.size w w1 := btr (by repeat (first | (with_reducible exact Below.refl _ _) | (with_reducible refine bal ?_ _) | (with_reducible refine Below.drew ?_) | (with_reducible refine bdn ?_ _))) hb
  have A1 : Row4 w1 w.heap.size (.int .u64 x0) (.int .u64 x1) (.int .u64 x2) (.int .u64 x3) := Row4.keep hb (by repeat (first | (with_reducible exact Row4.new _ _ _ _ _) | ((with_reducible refine Row4.new' _ ?_ _ _ _ _); (simp; done)) | (with_reducible refine Row4.alloc ?_ _) | (with_reducible refine Row4.drew ?_)))
  clear hb
  go_upto_region 2 with (fail)
  go_name_world w2 hw2
  have BW2 : Below w.heap.size w w2 := by rw [← hw2]; repeat (first | (with_reducible exact BW1) | (with_reducible refine bal ?_ _) | (with_reducible refine Below.drew ?_) | (with_reducible refine bdn ?_ _))
  have A2 : Row4 w2 w.heap.size (.int .u64 x0) (.int .u64 x1) (.int .u64 x2) (.int .u64 x3) := by rw [← hw2]; exact (by repeat (first | (with_reducible exact A1) | (with_reducible refine Row4.alloc ?_ _) | (with_reducible refine Row4.drew ?_)))
  have apQ_A := A1.lt
  have apQ_0 := (BW1).size
  have Q2 : Row4 w2 w1.heap.size (.int .u64 x0) (.int .u64 x1) (.int .u64 x2) (.int .u64 x3) := by rw [← hw2]; exact (by repeat (first | (with_reducible exact Row4.new _ _ _ _ _) | ((with_reducible refine Row4.new' _ ?_ _ _ _ _); (simp; done)) | (with_reducible refine Row4.alloc ?_ _) | (with_reducible refine Row4.drew ?_)))
  clear A1
  clear BW1
  clear hw2
  obtain ⟨Ac0, Ac1, Ac2, Ac3⟩ := A2.four
  obtain ⟨Af0, Af1, Af2, Af3⟩ := A2.free4
  obtain ⟨Qc0, Qc1, Qc2, Qc3⟩ := Q2.four
  obtain ⟨Qf0, Qf1, Qf2, Qf3⟩ := Q2.free4
  have hq := HQ.out
  go_wp2
  go_ret
  exact ⟨rfl, BW2⟩
/-- What a call of nat answers of a number that may be too great. -/
abbrev NEnd (z : Nat) : Value := if z < 2 ^ 256 then .tuple #[N4 z, .bool true] else .tuple #[N4 0, .bool false]
theorem two_yes {s : Value} {z : Nat} {w : World} (h : DR w s z) (hz : z < 2 ^ 256) :
    Calls Tryd.prog 22 #[N4 z, .bool true, s] w fun e w' => e = .returned (.bool true) ∧ Below w.heap.size w w' := by
  refine two_core _ _ _ _ true s w (by rw [eq4_nat z z hz hz]; exact decide_eq_true rfl) (fun W hW => ?_)
  have := rnat (h.keep hW)
  rw [if_pos hz] at this
  exact this
theorem two_no {s : Value} {z : Nat} {w : World} (h : DR w s z) (hz : ¬ z < 2 ^ 256) :
    Calls Tryd.prog 22 #[N4 0, .bool false, s] w fun e w' => e = .returned (.bool true) ∧ Below w.heap.size w w' := by
  refine two_core _ _ _ _ false s w (by rw [eq4_nat 0 0 (by decide) (by decide)]; exact decide_eq_true rfl) (fun W hW => ?_)
  have := rnat (h.keep hW)
  rw [if_neg hz] at this
  exact this
/-- The number and whether it is one. -/
def nz (z : Nat) : Nat := if z < 2 ^ 256 then z else 0
theorem two_any {s : Value} {z : Nat} {w : World} (h : DR w s z) :
    Calls Tryd.prog 22 #[N4 (nz z), .bool (decide (z < 2 ^ 256)), s] w fun e w' => e = .returned (.bool true) ∧ Below w.heap.size w w' := by
  unfold nz
  by_cases hz : z < 2 ^ 256
  · rw [if_pos hz, decide_eq_true hz]; exact two_yes h hz
  · rw [if_neg hz, decide_eq_false hz]; exact two_no h hz
theorem nadd (x y : Nat) (hx : x < 2 ^ 256) (hy : y < 2 ^ 256) (w : World) : Calls Tryd.prog 19 #[N4 x, N4 y] w fun e w' => e = .returned (.tuple #[N4 (nz (x + y)), .bool (decide (x + y < 2 ^ 256))]) ∧ Below w.heap.size w w' := by
  unfold nz
  by_cases hz : x + y < 2 ^ 256
  · rw [if_pos hz, decide_eq_true hz]; exact add_ok x y hx hy hz w
  · rw [if_neg hz, decide_eq_false hz]; exact add_over x y hx hy hz w
theorem nmul (x m : Nat) (hx : x < 2 ^ 256) (hm : m < 18446744073709551616) (w : World) : Calls Tryd.prog 21 #[N4 x, .int .u64 m] w fun e w' => e = .returned (.tuple #[N4 (nz (x * m)), .bool (decide (x * m < 2 ^ 256))]) ∧ Below w.heap.size w w' := by
  unfold nz
  by_cases hz : x * m < 2 ^ 256
  · rw [if_pos hz, decide_eq_true hz]; exact mul_ok x m hx hm hz w
  · rw [if_neg hz, decide_eq_false hz]; exact mul_over x m hx hm hz w
end Go.Proofs.YtpnlmikjcpjjmaaDoor
