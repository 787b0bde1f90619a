/-
  entrepotlaw1.NatLaws: the walk: it answers true for all numbers, all shifts; what its callees answer is a premise. The table internal/strconv.uint64pow10 reads as its initialiser lays it.
-/
import Derived.Test.YtbegblkfdnaloaaDoorNatTold
import Derived.Test.YtbegblkfdnaloaaDoorNatShr
import Derived.Test.YtbegblkfdnaloaaDoorIntBase
import Derived.BigRegion
import Derived.Lib.QuietBelow
import Derived.BigQuiet
import Derived.Lib.ItoaWalk
namespace Go.Proofs.YtbegblkfdnaloaaDoor
open Go.RowKit Go.Shelf
open Go.Sort (grow)
attribute [local go_sem ↓] eql_nat neq_nat

theorem Row4.top {W : World} {b : Nat} {v0 v1 v2 v3 : Value} (h : Row4 W b v0 v1 v2 v3) (u : Value) : Row4 (W.setCell ⟨b, 3, none⟩ u) b v0 v1 v2 u := by
  unfold Row4 at *
  have h0 := heap_setCell_same W b 3 _ _ u h
  simpa using h0

set_option maxHeartbeats 40000000 in
set_option maxRecDepth 100000 in
theorem laws_core (x y z s t u q : Nat) (p : Nat → Nat) (ar br cr k n c d : Int) (hn : wrap64 ((IntKind.u64.wrap k).tmod 51) = n) (n0 : 0 ≤ n) (n1 : n ≤ 50)
    (ha : bits .and .u64 ar 255 = lb 3 x) (hb2 : bits .and .u64 br 255 = lb 3 y) (hc : bits .and .u64 cr 255 = lb 3 z) (hp0 : p 0 = x) (hpn : p n.toNat = q)
    (hcd : (decide (c < 0) == decide (0 < d)) = true)
    (hs : eq4 (lb 0 s) (lb 1 s) (lb 2 s) (lb 3 s) (lb 0 s) (lb 1 s) (lb 2 s) (lb 3 s) = true) (ht : eq4 (lb 0 t) (lb 1 t) (lb 2 t) (lb 3 t) (lb 0 t) (lb 1 t) (lb 2 t) (lb 3 t) = true) (hx : eq4 (lb 0 x) (lb 1 x) (lb 2 x) (lb 3 x) (lb 0 x) (lb 1 x) (lb 2 x) (lb 3 x) = true) (hq : eq4 (lb 0 q) (lb 1 q) (lb 2 q) (lb 3 q) (lb 0 q) (lb 1 q) (lb 2 q) (lb 3 q) = true)
    (k1 : ∀ W, Calls Tryd.prog 18 #[.agg #[.int .u64 (lb 0 x), .int .u64 (lb 1 x), .int .u64 (lb 2 x), .int .u64 (lb 3 x)], .agg #[.int .u64 (lb 0 y), .int .u64 (lb 1 y), .int .u64 (lb 2 y), .int .u64 (lb 3 y)]] W fun e w' => e = .returned (.tuple #[.agg #[.int .u64 (lb 0 s), .int .u64 (lb 1 s), .int .u64 (lb 2 s), .int .u64 (lb 3 s)], .bool true]) ∧ Below W.heap.size W w')
    (k2 : ∀ W, Calls Tryd.prog 18 #[.agg #[.int .u64 (lb 0 y), .int .u64 (lb 1 y), .int .u64 (lb 2 y), .int .u64 (lb 3 y)], .agg #[.int .u64 (lb 0 x), .int .u64 (lb 1 x), .int .u64 (lb 2 x), .int .u64 (lb 3 x)]] W fun e w' => e = .returned (.tuple #[.agg #[.int .u64 (lb 0 s), .int .u64 (lb 1 s), .int .u64 (lb 2 s), .int .u64 (lb 3 s)], .bool true]) ∧ Below W.heap.size W w')
    (k3 : ∀ W, Calls Tryd.prog 18 #[.agg #[.int .u64 (lb 0 s), .int .u64 (lb 1 s), .int .u64 (lb 2 s), .int .u64 (lb 3 s)], .agg #[.int .u64 (lb 0 z), .int .u64 (lb 1 z), .int .u64 (lb 2 z), .int .u64 (lb 3 z)]] W fun e w' => e = .returned (.tuple #[.agg #[.int .u64 (lb 0 t), .int .u64 (lb 1 t), .int .u64 (lb 2 t), .int .u64 (lb 3 t)], .bool true]) ∧ Below W.heap.size W w')
    (k4 : ∀ W, Calls Tryd.prog 18 #[.agg #[.int .u64 (lb 0 y), .int .u64 (lb 1 y), .int .u64 (lb 2 y), .int .u64 (lb 3 y)], .agg #[.int .u64 (lb 0 z), .int .u64 (lb 1 z), .int .u64 (lb 2 z), .int .u64 (lb 3 z)]] W fun e w' => e = .returned (.tuple #[.agg #[.int .u64 (lb 0 u), .int .u64 (lb 1 u), .int .u64 (lb 2 u), .int .u64 (lb 3 u)], .bool true]) ∧ Below W.heap.size W w')
    (k5 : ∀ W, Calls Tryd.prog 18 #[.agg #[.int .u64 (lb 0 x), .int .u64 (lb 1 x), .int .u64 (lb 2 x), .int .u64 (lb 3 x)], .agg #[.int .u64 (lb 0 u), .int .u64 (lb 1 u), .int .u64 (lb 2 u), .int .u64 (lb 3 u)]] W fun e w' => e = .returned (.tuple #[.agg #[.int .u64 (lb 0 t), .int .u64 (lb 1 t), .int .u64 (lb 2 t), .int .u64 (lb 3 t)], .bool true]) ∧ Below W.heap.size W w')
    (k6 : ∀ W, Calls Tryd.prog 19 #[.agg #[.int .u64 (lb 0 s), .int .u64 (lb 1 s), .int .u64 (lb 2 s), .int .u64 (lb 3 s)], .agg #[.int .u64 (lb 0 y), .int .u64 (lb 1 y), .int .u64 (lb 2 y), .int .u64 (lb 3 y)]] W fun e w' => e = .returned (.tuple #[.agg #[.int .u64 (lb 0 x), .int .u64 (lb 1 x), .int .u64 (lb 2 x), .int .u64 (lb 3 x)], .bool true]) ∧ Below W.heap.size W w')
    (k7 : ∀ (j : Nat), (j : Int) < n → ∀ W, Calls Tryd.prog 20 #[.agg #[.int .u64 (lb 0 (p j)), .int .u64 (lb 1 (p j)), .int .u64 (lb 2 (p j)), .int .u64 (lb 3 (p j))], .int .u64 2] W fun e w' => e = .returned (.tuple #[.agg #[.int .u64 (lb 0 (p (j + 1))), .int .u64 (lb 1 (p (j + 1))), .int .u64 (lb 2 (p (j + 1))), .int .u64 (lb 3 (p (j + 1)))], .bool true]) ∧ Below W.heap.size W w')
    (k8 : ∀ W, Calls Tryd.prog 30 #[.agg #[.int .u64 (lb 0 x), .int .u64 (lb 1 x), .int .u64 (lb 2 x), .int .u64 (lb 3 x)], .int .i64 n] W fun e w' => e = .returned (.tuple #[.agg #[.int .u64 (lb 0 q), .int .u64 (lb 1 q), .int .u64 (lb 2 q), .int .u64 (lb 3 q)], .bool true]) ∧ Below W.heap.size W w')
    (k9 : ∀ W, Calls Tryd.prog 35 #[.agg #[.int .u64 (lb 0 q), .int .u64 (lb 1 q), .int .u64 (lb 2 q), .int .u64 (lb 3 q)], .int .i64 n] W fun e w' => e = .returned (.agg #[.int .u64 (lb 0 x), .int .u64 (lb 1 x), .int .u64 (lb 2 x), .int .u64 (lb 3 x)]) ∧ Below W.heap.size W w')
    (k10 : ∀ W, Calls Tryd.prog 28 #[.agg #[.int .u64 (lb 0 x), .int .u64 (lb 1 x), .int .u64 (lb 2 x), .int .u64 (lb 3 x)], .agg #[.int .u64 (lb 0 y), .int .u64 (lb 1 y), .int .u64 (lb 2 y), .int .u64 (lb 3 y)]] W fun e w' => e = .returned (.int .i64 c) ∧ Below W.heap.size W w')
    (k11 : ∀ W, Calls Tryd.prog 28 #[.agg #[.int .u64 (lb 0 y), .int .u64 (lb 1 y), .int .u64 (lb 2 y), .int .u64 (lb 3 y)], .agg #[.int .u64 (lb 0 x), .int .u64 (lb 1 x), .int .u64 (lb 2 x), .int .u64 (lb 3 x)]] W fun e w' => e = .returned (.int .i64 d) ∧ Below W.heap.size W w') (w : World) (htab : Tab w) :
    Calls Tryd.prog 7 #[.agg #[.int .u64 (lb 0 x), .int .u64 (lb 1 x), .int .u64 (lb 2 x), .int .u64 ar], .agg #[.int .u64 (lb 0 y), .int .u64 (lb 1 y), .int .u64 (lb 2 y), .int .u64 br], .agg #[.int .u64 (lb 0 z), .int .u64 (lb 1 z), .int .u64 (lb 2 z), .int .u64 cr], .int .i64 k] w fun e w' => e = .returned (.bool true) ∧ Below w.heap.size w w' := by
  have HT := Lib.hid htab; clear htab
  have K1 := Lib.hid k1; clear k1
  have K2 := Lib.hid k2; clear k2
  have K3 := Lib.hid k3; clear k3
  have K4 := Lib.hid k4; clear k4
  have K5 := Lib.hid k5; clear k5
  have K6 := Lib.hid k6; clear k6
  have K7 := Lib.hid k7; clear k7
  have K8 := Lib.hid k8; clear k8
  have K9 := Lib.hid k9; clear k9
  have K10 := Lib.hid k10; clear k10
  have K11 := Lib.hid k11; clear k11
  have HA := Lib.hid ha; clear ha
  have HB2 := Lib.hid hb2; clear hb2
  have HC := Lib.hid hc; clear hc
  have HP0 := Lib.hid hp0; clear hp0
  have HPN := Lib.hid hpn; clear hpn
  have HCD := Lib.hid hcd; clear hcd
  have HS := Lib.hid hs; clear hs
  have HTT := Lib.hid ht; clear ht
  have HX := Lib.hid hx; clear hx
  have HQ := Lib.hid hq; clear hq
  have HN := Lib.hid hn; clear hn
  go_enter Tryd.func7, Tryd.ntmps7
  go_upto_region 1 with (fail)
  go_name_world w1 hw1
  have BW1 : Below w.heap.size w w1 := by rw [← hw1]; repeat (first | (with_reducible exact Below.refl _ _) | (with_reducible refine bal ?_ _) | (with_reducible refine Below.drew ?_) | (with_reducible refine bdn ?_ _))
  have A1 : Row4 w1 w.heap.size (.int .u64 (lb 0 x)) (.int .u64 (lb 1 x)) (.int .u64 (lb 2 x)) (.int .u64 ar) := by rw [← hw1]; exact (by repeat (first | (with_reducible exact Row4.new _ _ _ _ _) | ((with_reducible refine Row4.new' _ ?_ _ _ _ _); (simp; done)) | (with_reducible refine Row4.alloc ?_ _) | (with_reducible refine Row4.drew ?_)))
  have B1 : Row4 w1 (w.heap.size + 1) (.int .u64 (lb 0 y)) (.int .u64 (lb 1 y)) (.int .u64 (lb 2 y)) (.int .u64 br) := by rw [← hw1]; exact (by repeat (first | (with_reducible exact Row4.new _ _ _ _ _) | ((with_reducible refine Row4.new' _ ?_ _ _ _ _); (simp; done)) | (with_reducible refine Row4.alloc ?_ _) | (with_reducible refine Row4.drew ?_)))
  have C1 : Row4 w1 (w.heap.size + 1 + 1) (.int .u64 (lb 0 z)) (.int .u64 (lb 1 z)) (.int .u64 (lb 2 z)) (.int .u64 cr) := by rw [← hw1]; exact (by repeat (first | (with_reducible exact Row4.new _ _ _ _ _) | ((with_reducible refine Row4.new' _ ?_ _ _ _ _); (simp; done)) | (with_reducible refine Row4.alloc ?_ _) | (with_reducible refine Row4.drew ?_)))
  clear hw1
  have lt_A := A1.lt
  have lt_B := B1.lt
  have lt_C := C1.lt
  go_cut [] (fun wx => Row4 wx w.heap.size (.int .u64 (lb 0 x)) (.int .u64 (lb 1 x)) (.int .u64 (lb 2 x)) (.int .u64 (lb 3 x)) ∧ Row4 wx (w.heap.size + 1) (.int .u64 (lb 0 y)) (.int .u64 (lb 1 y)) (.int .u64 (lb 2 y)) (.int .u64 (lb 3 y)) ∧ Row4 wx (w.heap.size + 1 + 1) (.int .u64 (lb 0 z)) (.int .u64 (lb 1 z)) (.int .u64 (lb 2 z)) (.int .u64 (lb 3 z)) ∧ Below w.heap.size w wx)
  case first =>
    obtain ⟨Ac0, Ac1, Ac2, Ac3⟩ := A1.four
    obtain ⟨Af0, Af1, Af2, Af3⟩ := A1.free4
    obtain ⟨Bc0, Bc1, Bc2, Bc3⟩ := B1.four
    obtain ⟨Bf0, Bf1, Bf2, Bf3⟩ := B1.free4
    obtain ⟨Cc0, Cc1, Cc2, Cc3⟩ := C1.four
    obtain ⟨Cf0, Cf1, Cf2, Cf3⟩ := C1.free4
    go_region
    all_goals
      rw [HA.out, HB2.out, HC.out]
      go_wp2
      go_meet
      refine ⟨?_, ?_, ?_, ?_⟩
      · (repeat (first | (with_reducible exact A1) | (with_reducible refine Row4.top (v3 := .int .u64 ar) ?_ _) | (with_reducible refine Row4.drew ?_) | ((with_reducible refine Row4.set ?_ ?_ _); rotate_left; (focus (omega)))))
      · (repeat (first | (with_reducible exact B1) | (with_reducible refine Row4.top (v3 := .int .u64 br) ?_ _) | (with_reducible refine Row4.drew ?_) | ((with_reducible refine Row4.set ?_ ?_ _); rotate_left; (focus (omega)))))
      · (repeat (first | (with_reducible exact C1) | (with_reducible refine Row4.top (v3 := .int .u64 cr) ?_ _) | (with_reducible refine Row4.drew ?_) | ((with_reducible refine Row4.set ?_ ?_ _); rotate_left; (focus (omega)))))
      · repeat (first | (with_reducible exact BW1) | (with_reducible refine Below.drew ?_) | ((with_reducible refine bsc ?_ ?_ _); rotate_left; (focus (simp; done))) | ((with_reducible refine bsc ?_ ?_ _); rotate_left; (focus (simp; omega))))
  case rest =>
    generalize wc = w2 at *
    clear A1
    clear B1
    clear C1
    clear BW1
    obtain ⟨A2, B2, C2, BW2⟩ := hcut
    obtain ⟨Ac0, Ac1, Ac2, Ac3⟩ := A2.four
    obtain ⟨Af0, Af1, Af2, Af3⟩ := A2.free4
    obtain ⟨Bc0, Bc1, Bc2, Bc3⟩ := B2.four
    obtain ⟨Bf0, Bf1, Bf2, Bf3⟩ := B2.free4
    go_wp2_with fail
    (with_reducible refine (K1.out _).mono ?_)
    rintro e w3 ⟨rfl, hb⟩
    have BW3 : Below w.heap.size w w3 := btr (by repeat (first | (with_reducible exact BW2) | (with_reducible refine bal ?_ _) | (with_reducible refine Below.drew ?_) | (with_reducible refine bdn ?_ _))) hb
    have A3 : Row4 w3 w.heap.size (.int .u64 (lb 0 x)) (.int .u64 (lb 1 x)) (.int .u64 (lb 2 x)) (.int .u64 (lb 3 x)) := Row4.keep hb (by repeat (first | (with_reducible exact A2) | (with_reducible refine Row4.alloc ?_ _) | (with_reducible refine Row4.drew ?_)))
    have B3 : Row4 w3 (w.heap.size + 1) (.int .u64 (lb 0 y)) (.int .u64 (lb 1 y)) (.int .u64 (lb 2 y)) (.int .u64 (lb 3 y)) := Row4.keep hb (by repeat (first | (with_reducible exact B2) | (with_reducible refine Row4.alloc ?_ _) | (with_reducible refine Row4.drew ?_)))
    have C3 : Row4 w3 (w.heap.size + 1 + 1) (.int .u64 (lb 0 z)) (.int .u64 (lb 1 z)) (.int .u64 (lb 2 z)) (.int .u64 (lb 3 z)) := Row4.keep hb (by repeat (first | (with_reducible exact C2) | (with_reducible refine Row4.alloc ?_ _) | (with_reducible refine Row4.drew ?_)))
    clear A2 B2 C2
    clear BW2
    clear hb
    go_upto_region 3 with (fail)
    go_name_world w4 hw4
    have BW4 : Below w.heap.size w w4 := by rw [← hw4]; repeat (first | (with_reducible exact BW3) | (with_reducible refine bal ?_ _) | (with_reducible refine Below.drew ?_) | (with_reducible refine bdn ?_ _))
    have A4 : Row4 w4 w.heap.size (.int .u64 (lb 0 x)) (.int .u64 (lb 1 x)) (.int .u64 (lb 2 x)) (.int .u64 (lb 3 x)) := by rw [← hw4]; exact (by repeat (first | (with_reducible exact A3) | (with_reducible refine Row4.alloc ?_ _) | (with_reducible refine Row4.drew ?_)))
    have B4 : Row4 w4 (w.heap.size + 1) (.int .u64 (lb 0 y)) (.int .u64 (lb 1 y)) (.int .u64 (lb 2 y)) (.int .u64 (lb 3 y)) := by rw [← hw4]; exact (by repeat (first | (with_reducible exact B3) | (with_reducible refine Row4.alloc ?_ _) | (with_reducible refine Row4.drew ?_)))
    have C4 : Row4 w4 (w.heap.size + 1 + 1) (.int .u64 (lb 0 z)) (.int .u64 (lb 1 z)) (.int .u64 (lb 2 z)) (.int .u64 (lb 3 z)) := by rw [← hw4]; exact (by repeat (first | (with_reducible exact C3) | (with_reducible refine Row4.alloc ?_ _) | (with_reducible refine Row4.drew ?_)))
    have apS_A := A3.lt
    have apS_B := B3.lt
    have apS_C := C3.lt
    have apS_0 := (BW3).size
    have S4 : Row4 w4 w3.heap.size (.int .u64 (lb 0 s)) (.int .u64 (lb 1 s)) (.int .u64 (lb 2 s)) (.int .u64 (lb 3 s)) := by rw [← hw4]; exact (by repeat (first | (with_reducible exact Row4.new _ _ _ _ _) | ((with_reducible refine Row4.new' _ ?_ _ _ _ _); (simp; done)) | (with_reducible refine Row4.alloc ?_ _) | (with_reducible refine Row4.drew ?_)))
    clear A3 B3 C3
    clear BW3
    clear hw4
    obtain ⟨Ac0, Ac1, Ac2, Ac3⟩ := A4.four
    obtain ⟨Af0, Af1, Af2, Af3⟩ := A4.free4
    obtain ⟨Bc0, Bc1, Bc2, Bc3⟩ := B4.four
    obtain ⟨Bf0, Bf1, Bf2, Bf3⟩ := B4.free4
    go_wp2_with fail
    (with_reducible refine (K2.out _).mono ?_)
    rintro e w5 ⟨rfl, hb⟩
    have BW5 : Below w.heap.size w w5 := btr (by repeat (first | (with_reducible exact BW4) | (with_reducible refine bal ?_ _) | (with_reducible refine Below.drew ?_) | (with_reducible refine bdn ?_ _))) hb
    have A5 : Row4 w5 w.heap.size (.int .u64 (lb 0 x)) (.int .u64 (lb 1 x)) (.int .u64 (lb 2 x)) (.int .u64 (lb 3 x)) := Row4.keep hb (by repeat (first | (with_reducible exact A4) | (with_reducible refine Row4.alloc ?_ _) | (with_reducible refine Row4.drew ?_)))
    have B5 : Row4 w5 (w.heap.size + 1) (.int .u64 (lb 0 y)) (.int .u64 (lb 1 y)) (.int .u64 (lb 2 y)) (.int .u64 (lb 3 y)) := Row4.keep hb (by repeat (first | (with_reducible exact B4) | (with_reducible refine Row4.alloc ?_ _) | (with_reducible refine Row4.drew ?_)))
    have C5 : Row4 w5 (w.heap.size + 1 + 1) (.int .u64 (lb 0 z)) (.int .u64 (lb 1 z)) (.int .u64 (lb 2 z)) (.int .u64 (lb 3 z)) := Row4.keep hb (by repeat (first | (with_reducible exact C4) | (with_reducible refine Row4.alloc ?_ _) | (with_reducible refine Row4.drew ?_)))
    have S5 : Row4 w5 w3.heap.size (.int .u64 (lb 0 s)) (.int .u64 (lb 1 s)) (.int .u64 (lb 2 s)) (.int .u64 (lb 3 s)) := Row4.keep hb (by repeat (first | (with_reducible exact S4) | (with_reducible refine Row4.alloc ?_ _) | (with_reducible refine Row4.drew ?_)))
    clear A4 B4 C4 S4
    clear BW4
    clear hb
    go_upto_region 4 with (fail)
    go_name_world w6 hw6
    have BW6 : Below w.heap.size w w6 := by rw [← hw6]; repeat (first | (with_reducible exact BW5) | (with_reducible refine bal ?_ _) | (with_reducible refine Below.drew ?_) | (with_reducible refine bdn ?_ _))
    have A6 : Row4 w6 w.heap.size (.int .u64 (lb 0 x)) (.int .u64 (lb 1 x)) (.int .u64 (lb 2 x)) (.int .u64 (lb 3 x)) := by rw [← hw6]; exact (by repeat (first | (with_reducible exact A5) | (with_reducible refine Row4.alloc ?_ _) | (with_reducible refine Row4.drew ?_)))
    have B6 : Row4 w6 (w.heap.size + 1) (.int .u64 (lb 0 y)) (.int .u64 (lb 1 y)) (.int .u64 (lb 2 y)) (.int .u64 (lb 3 y)) := by rw [← hw6]; exact (by repeat (first | (with_reducible exact B5) | (with_reducible refine Row4.alloc ?_ _) | (with_reducible refine Row4.drew ?_)))
    have C6 : Row4 w6 (w.heap.size + 1 + 1) (.int .u64 (lb 0 z)) (.int .u64 (lb 1 z)) (.int .u64 (lb 2 z)) (.int .u64 (lb 3 z)) := by rw [← hw6]; exact (by repeat (first | (with_reducible exact C5) | (with_reducible refine Row4.alloc ?_ _) | (with_reducible refine Row4.drew ?_)))
    have S6 : Row4 w6 w3.heap.size (.int .u64 (lb 0 s)) (.int .u64 (lb 1 s)) (.int .u64 (lb 2 s)) (.int .u64 (lb 3 s)) := by rw [← hw6]; exact (by repeat (first | (with_reducible exact S5) | (with_reducible refine Row4.alloc ?_ _) | (with_reducible refine Row4.drew ?_)))
    have apY_A := A5.lt
    have apY_B := B5.lt
    have apY_C := C5.lt
    have apY_S := S5.lt
    have apY_0 := (BW5).size
    have Y6 : Row4 w6 w5.heap.size (.int .u64 (lb 0 s)) (.int .u64 (lb 1 s)) (.int .u64 (lb 2 s)) (.int .u64 (lb 3 s)) := by rw [← hw6]; exact (by repeat (first | (with_reducible exact Row4.new _ _ _ _ _) | ((with_reducible refine Row4.new' _ ?_ _ _ _ _); (simp; done)) | (with_reducible refine Row4.alloc ?_ _) | (with_reducible refine Row4.drew ?_)))
    clear A5 B5 C5 S5
    clear BW5
    clear hw6
    obtain ⟨Cc0, Cc1, Cc2, Cc3⟩ := C6.four
    obtain ⟨Cf0, Cf1, Cf2, Cf3⟩ := C6.free4
    obtain ⟨Sc0, Sc1, Sc2, Sc3⟩ := S6.four
    obtain ⟨Sf0, Sf1, Sf2, Sf3⟩ := S6.free4
    go_wp2_with fail
    (with_reducible refine (K3.out _).mono ?_)
    rintro e w7 ⟨rfl, hb⟩
    have BW7 : Below w.heap.size w w7 := btr (by repeat (first | (with_reducible exact BW6) | (with_reducible refine bal ?_ _) | (with_reducible refine Below.drew ?_) | (with_reducible refine bdn ?_ _))) hb
    have A7 : Row4 w7 w.heap.size (.int .u64 (lb 0 x)) (.int .u64 (lb 1 x)) (.int .u64 (lb 2 x)) (.int .u64 (lb 3 x)) := Row4.keep hb (by repeat (first | (with_reducible exact A6) | (with_reducible refine Row4.alloc ?_ _) | (with_reducible refine Row4.drew ?_)))
    have B7 : Row4 w7 (w.heap.size + 1) (.int .u64 (lb 0 y)) (.int .u64 (lb 1 y)) (.int .u64 (lb 2 y)) (.int .u64 (lb 3 y)) := Row4.keep hb (by repeat (first | (with_reducible exact B6) | (with_reducible refine Row4.alloc ?_ _) | (with_reducible refine Row4.drew ?_)))
    have C7 : Row4 w7 (w.heap.size + 1 + 1) (.int .u64 (lb 0 z)) (.int .u64 (lb 1 z)) (.int .u64 (lb 2 z)) (.int .u64 (lb 3 z)) := Row4.keep hb (by repeat (first | (with_reducible exact C6) | (with_reducible refine Row4.alloc ?_ _) | (with_reducible refine Row4.drew ?_)))
    have S7 : Row4 w7 w3.heap.size (.int .u64 (lb 0 s)) (.int .u64 (lb 1 s)) (.int .u64 (lb 2 s)) (.int .u64 (lb 3 s)) := Row4.keep hb (by repeat (first | (with_reducible exact S6) | (with_reducible refine Row4.alloc ?_ _) | (with_reducible refine Row4.drew ?_)))
    have Y7 : Row4 w7 w5.heap.size (.int .u64 (lb 0 s)) (.int .u64 (lb 1 s)) (.int .u64 (lb 2 s)) (.int .u64 (lb 3 s)) := Row4.keep hb (by repeat (first | (with_reducible exact Y6) | (with_reducible refine Row4.alloc ?_ _) | (with_reducible refine Row4.drew ?_)))
    clear A6 B6 C6 S6 Y6
    clear BW6
    clear hb
    go_upto_region 5 with (fail)
    go_name_world w8 hw8
    have BW8 : Below w.heap.size w w8 := by rw [← hw8]; repeat (first | (with_reducible exact BW7) | (with_reducible refine bal ?_ _) | (with_reducible refine Below.drew ?_) | (with_reducible refine bdn ?_ _))
    have A8 : Row4 w8 w.heap.size (.int .u64 (lb 0 x)) (.int .u64 (lb 1 x)) (.int .u64 (lb 2 x)) (.int .u64 (lb 3 x)) := by rw [← hw8]; exact (by repeat (first | (with_reducible exact A7) | (with_reducible refine Row4.alloc ?_ _) | (with_reducible refine Row4.drew ?_)))
    have B8 : Row4 w8 (w.heap.size + 1) (.int .u64 (lb 0 y)) (.int .u64 (lb 1 y)) (.int .u64 (lb 2 y)) (.int .u64 (lb 3 y)) := by rw [← hw8]; exact (by repeat (first | (with_reducible exact B7) | (with_reducible refine Row4.alloc ?_ _) | (with_reducible refine Row4.drew ?_)))
    have C8 : Row4 w8 (w.heap.size + 1 + 1) (.int .u64 (lb 0 z)) (.int .u64 (lb 1 z)) (.int .u64 (lb 2 z)) (.int .u64 (lb 3 z)) := by rw [← hw8]; exact (by repeat (first | (with_reducible exact C7) | (with_reducible refine Row4.alloc ?_ _) | (with_reducible refine Row4.drew ?_)))
    have S8 : Row4 w8 w3.heap.size (.int .u64 (lb 0 s)) (.int .u64 (lb 1 s)) (.int .u64 (lb 2 s)) (.int .u64 (lb 3 s)) := by rw [← hw8]; exact (by repeat (first | (with_reducible exact S7) | (with_reducible refine Row4.alloc ?_ _) | (with_reducible refine Row4.drew ?_)))
    have Y8 : Row4 w8 w5.heap.size (.int .u64 (lb 0 s)) (.int .u64 (lb 1 s)) (.int .u64 (lb 2 s)) (.int .u64 (lb 3 s)) := by rw [← hw8]; exact (by repeat (first | (with_reducible exact Y7) | (with_reducible refine Row4.alloc ?_ _) | (with_reducible refine Row4.drew ?_)))
    have apZ_A := A7.lt
    have apZ_B := B7.lt
    have apZ_C := C7.lt
    have apZ_S := S7.lt
    have apZ_Y := Y7.lt
    have apZ_0 := (BW7).size
    have Z8 : Row4 w8 w7.heap.size (.int .u64 (lb 0 t)) (.int .u64 (lb 1 t)) (.int .u64 (lb 2 t)) (.int .u64 (lb 3 t)) := by rw [← hw8]; exact (by repeat (first | (with_reducible exact Row4.new _ _ _ _ _) | ((with_reducible refine Row4.new' _ ?_ _ _ _ _); (simp; done)) | (with_reducible refine Row4.alloc ?_ _) | (with_reducible refine Row4.drew ?_)))
    clear A7 B7 C7 S7 Y7
    clear BW7
    clear hw8
    obtain ⟨Bc0, Bc1, Bc2, Bc3⟩ := B8.four
    obtain ⟨Bf0, Bf1, Bf2, Bf3⟩ := B8.free4
    obtain ⟨Cc0, Cc1, Cc2, Cc3⟩ := C8.four
    obtain ⟨Cf0, Cf1, Cf2, Cf3⟩ := C8.free4
    go_wp2_with fail
    (with_reducible refine (K4.out _).mono ?_)
    rintro e w9 ⟨rfl, hb⟩
    have BW9 : Below w.heap.size w w9 := btr (by repeat (first | (with_reducible exact BW8) | (with_reducible refine bal ?_ _) | (with_reducible refine Below.drew ?_) | (with_reducible refine bdn ?_ _))) hb
    have A9 : Row4 w9 w.heap.size (.int .u64 (lb 0 x)) (.int .u64 (lb 1 x)) (.int .u64 (lb 2 x)) (.int .u64 (lb 3 x)) := Row4.keep hb (by repeat (first | (with_reducible exact A8) | (with_reducible refine Row4.alloc ?_ _) | (with_reducible refine Row4.drew ?_)))
    have B9 : Row4 w9 (w.heap.size + 1) (.int .u64 (lb 0 y)) (.int .u64 (lb 1 y)) (.int .u64 (lb 2 y)) (.int .u64 (lb 3 y)) := Row4.keep hb (by repeat (first | (with_reducible exact B8) | (with_reducible refine Row4.alloc ?_ _) | (with_reducible refine Row4.drew ?_)))
    have C9 : Row4 w9 (w.heap.size + 1 + 1) (.int .u64 (lb 0 z)) (.int .u64 (lb 1 z)) (.int .u64 (lb 2 z)) (.int .u64 (lb 3 z)) := Row4.keep hb (by repeat (first | (with_reducible exact C8) | (with_reducible refine Row4.alloc ?_ _) | (with_reducible refine Row4.drew ?_)))
    have S9 : Row4 w9 w3.heap.size (.int .u64 (lb 0 s)) (.int .u64 (lb 1 s)) (.int .u64 (lb 2 s)) (.int .u64 (lb 3 s)) := Row4.keep hb (by repeat (first | (with_reducible exact S8) | (with_reducible refine Row4.alloc ?_ _) | (with_reducible refine Row4.drew ?_)))
    have Y9 : Row4 w9 w5.heap.size (.int .u64 (lb 0 s)) (.int .u64 (lb 1 s)) (.int .u64 (lb 2 s)) (.int .u64 (lb 3 s)) := Row4.keep hb (by repeat (first | (with_reducible exact Y8) | (with_reducible refine Row4.alloc ?_ _) | (with_reducible refine Row4.drew ?_)))
    have Z9 : Row4 w9 w7.heap.size (.int .u64 (lb 0 t)) (.int .u64 (lb 1 t)) (.int .u64 (lb 2 t)) (.int .u64 (lb 3 t)) := Row4.keep hb (by repeat (first | (with_reducible exact Z8) | (with_reducible refine Row4.alloc ?_ _) | (with_reducible refine Row4.drew ?_)))
    clear A8 B8 C8 S8 Y8 Z8
    clear BW8
    clear hb
    go_upto_region 6 with (fail)
    go_name_world w10 hw10
    have BW10 : Below w.heap.size w w10 := by rw [← hw10]; repeat (first | (with_reducible exact BW9) | (with_reducible refine bal ?_ _) | (with_reducible refine Below.drew ?_) | (with_reducible refine bdn ?_ _))
    have A10 : Row4 w10 w.heap.size (.int .u64 (lb 0 x)) (.int .u64 (lb 1 x)) (.int .u64 (lb 2 x)) (.int .u64 (lb 3 x)) := by rw [← hw10]; exact (by repeat (first | (with_reducible exact A9) | (with_reducible refine Row4.alloc ?_ _) | (with_reducible refine Row4.drew ?_)))
    have B10 : Row4 w10 (w.heap.size + 1) (.int .u64 (lb 0 y)) (.int .u64 (lb 1 y)) (.int .u64 (lb 2 y)) (.int .u64 (lb 3 y)) := by rw [← hw10]; exact (by repeat (first | (with_reducible exact B9) | (with_reducible refine Row4.alloc ?_ _) | (with_reducible refine Row4.drew ?_)))
    have C10 : Row4 w10 (w.heap.size + 1 + 1) (.int .u64 (lb 0 z)) (.int .u64 (lb 1 z)) (.int .u64 (lb 2 z)) (.int .u64 (lb 3 z)) := by rw [← hw10]; exact (by repeat (first | (with_reducible exact C9) | (with_reducible refine Row4.alloc ?_ _) | (with_reducible refine Row4.drew ?_)))
    have S10 : Row4 w10 w3.heap.size (.int .u64 (lb 0 s)) (.int .u64 (lb 1 s)) (.int .u64 (lb 2 s)) (.int .u64 (lb 3 s)) := by rw [← hw10]; exact (by repeat (first | (with_reducible exact S9) | (with_reducible refine Row4.alloc ?_ _) | (with_reducible refine Row4.drew ?_)))
    have Y10 : Row4 w10 w5.heap.size (.int .u64 (lb 0 s)) (.int .u64 (lb 1 s)) (.int .u64 (lb 2 s)) (.int .u64 (lb 3 s)) := by rw [← hw10]; exact (by repeat (first | (with_reducible exact Y9) | (with_reducible refine Row4.alloc ?_ _) | (with_reducible refine Row4.drew ?_)))
    have Z10 : Row4 w10 w7.heap.size (.int .u64 (lb 0 t)) (.int .u64 (lb 1 t)) (.int .u64 (lb 2 t)) (.int .u64 (lb 3 t)) := by rw [← hw10]; exact (by repeat (first | (with_reducible exact Z9) | (with_reducible refine Row4.alloc ?_ _) | (with_reducible refine Row4.drew ?_)))
    have apU_A := A9.lt
    have apU_B := B9.lt
    have apU_C := C9.lt
    have apU_S := S9.lt
    have apU_Y := Y9.lt
    have apU_Z := Z9.lt
    have apU_0 := (BW9).size
    have U10 : Row4 w10 w9.heap.size (.int .u64 (lb 0 u)) (.int .u64 (lb 1 u)) (.int .u64 (lb 2 u)) (.int .u64 (lb 3 u)) := by rw [← hw10]; exact (by repeat (first | (with_reducible exact Row4.new _ _ _ _ _) | ((with_reducible refine Row4.new' _ ?_ _ _ _ _); (simp; done)) | (with_reducible refine Row4.alloc ?_ _) | (with_reducible refine Row4.drew ?_)))
    clear A9 B9 C9 S9 Y9 Z9
    clear BW9
    clear hw10
    obtain ⟨Ac0, Ac1, Ac2, Ac3⟩ := A10.four
    obtain ⟨Af0, Af1, Af2, Af3⟩ := A10.free4
    obtain ⟨Uc0, Uc1, Uc2, Uc3⟩ := U10.four
    obtain ⟨Uf0, Uf1, Uf2, Uf3⟩ := U10.free4
    go_wp2_with fail
    (with_reducible refine (K5.out _).mono ?_)
    rintro e w11 ⟨rfl, hb⟩
    have BW11 : Below w.heap.size w w11 := btr (by repeat (first | (with_reducible exact BW10) | (with_reducible refine bal ?_ _) | (with_reducible refine Below.drew ?_) | (with_reducible refine bdn ?_ _))) hb
    have A11 : Row4 w11 w.heap.size (.int .u64 (lb 0 x)) (.int .u64 (lb 1 x)) (.int .u64 (lb 2 x)) (.int .u64 (lb 3 x)) := Row4.keep hb (by repeat (first | (with_reducible exact A10) | (with_reducible refine Row4.alloc ?_ _) | (with_reducible refine Row4.drew ?_)))
    have B11 : Row4 w11 (w.heap.size + 1) (.int .u64 (lb 0 y)) (.int .u64 (lb 1 y)) (.int .u64 (lb 2 y)) (.int .u64 (lb 3 y)) := Row4.keep hb (by repeat (first | (with_reducible exact B10) | (with_reducible refine Row4.alloc ?_ _) | (with_reducible refine Row4.drew ?_)))
    have C11 : Row4 w11 (w.heap.size + 1 + 1) (.int .u64 (lb 0 z)) (.int .u64 (lb 1 z)) (.int .u64 (lb 2 z)) (.int .u64 (lb 3 z)) := Row4.keep hb (by repeat (first | (with_reducible exact C10) | (with_reducible refine Row4.alloc ?_ _) | (with_reducible refine Row4.drew ?_)))
    have S11 : Row4 w11 w3.heap.size (.int .u64 (lb 0 s)) (.int .u64 (lb 1 s)) (.int .u64 (lb 2 s)) (.int .u64 (lb 3 s)) := Row4.keep hb (by repeat (first | (with_reducible exact S10) | (with_reducible refine Row4.alloc ?_ _) | (with_reducible refine Row4.drew ?_)))
    have Y11 : Row4 w11 w5.heap.size (.int .u64 (lb 0 s)) (.int .u64 (lb 1 s)) (.int .u64 (lb 2 s)) (.int .u64 (lb 3 s)) := Row4.keep hb (by repeat (first | (with_reducible exact Y10) | (with_reducible refine Row4.alloc ?_ _) | (with_reducible refine Row4.drew ?_)))
    have Z11 : Row4 w11 w7.heap.size (.int .u64 (lb 0 t)) (.int .u64 (lb 1 t)) (.int .u64 (lb 2 t)) (.int .u64 (lb 3 t)) := Row4.keep hb (by repeat (first | (with_reducible exact Z10) | (with_reducible refine Row4.alloc ?_ _) | (with_reducible refine Row4.drew ?_)))
    have U11 : Row4 w11 w9.heap.size (.int .u64 (lb 0 u)) (.int .u64 (lb 1 u)) (.int .u64 (lb 2 u)) (.int .u64 (lb 3 u)) := Row4.keep hb (by repeat (first | (with_reducible exact U10) | (with_reducible refine Row4.alloc ?_ _) | (with_reducible refine Row4.drew ?_)))
    clear A10 B10 C10 S10 Y10 Z10 U10
    clear BW10
    clear hb
    go_upto_region 7 with (fail)
    go_name_world w12 hw12
    have BW12 : Below w.heap.size w w12 := by rw [← hw12]; repeat (first | (with_reducible exact BW11) | (with_reducible refine bal ?_ _) | (with_reducible refine Below.drew ?_) | (with_reducible refine bdn ?_ _))
    have A12 : Row4 w12 w.heap.size (.int .u64 (lb 0 x)) (.int .u64 (lb 1 x)) (.int .u64 (lb 2 x)) (.int .u64 (lb 3 x)) := by rw [← hw12]; exact (by repeat (first | (with_reducible exact A11) | (with_reducible refine Row4.alloc ?_ _) | (with_reducible refine Row4.drew ?_)))
    have B12 : Row4 w12 (w.heap.size + 1) (.int .u64 (lb 0 y)) (.int .u64 (lb 1 y)) (.int .u64 (lb 2 y)) (.int .u64 (lb 3 y)) := by rw [← hw12]; exact (by repeat (first | (with_reducible exact B11) | (with_reducible refine Row4.alloc ?_ _) | (with_reducible refine Row4.drew ?_)))
    have C12 : Row4 w12 (w.heap.size + 1 + 1) (.int .u64 (lb 0 z)) (.int .u64 (lb 1 z)) (.int .u64 (lb 2 z)) (.int .u64 (lb 3 z)) := by rw [← hw12]; exact (by repeat (first | (with_reducible exact C11) | (with_reducible refine Row4.alloc ?_ _) | (with_reducible refine Row4.drew ?_)))
    have S12 : Row4 w12 w3.heap.size (.int .u64 (lb 0 s)) (.int .u64 (lb 1 s)) (.int .u64 (lb 2 s)) (.int .u64 (lb 3 s)) := by rw [← hw12]; exact (by repeat (first | (with_reducible exact S11) | (with_reducible refine Row4.alloc ?_ _) | (with_reducible refine Row4.drew ?_)))
    have Y12 : Row4 w12 w5.heap.size (.int .u64 (lb 0 s)) (.int .u64 (lb 1 s)) (.int .u64 (lb 2 s)) (.int .u64 (lb 3 s)) := by rw [← hw12]; exact (by repeat (first | (with_reducible exact Y11) | (with_reducible refine Row4.alloc ?_ _) | (with_reducible refine Row4.drew ?_)))
    have Z12 : Row4 w12 w7.heap.size (.int .u64 (lb 0 t)) (.int .u64 (lb 1 t)) (.int .u64 (lb 2 t)) (.int .u64 (lb 3 t)) := by rw [← hw12]; exact (by repeat (first | (with_reducible exact Z11) | (with_reducible refine Row4.alloc ?_ _) | (with_reducible refine Row4.drew ?_)))
    have U12 : Row4 w12 w9.heap.size (.int .u64 (lb 0 u)) (.int .u64 (lb 1 u)) (.int .u64 (lb 2 u)) (.int .u64 (lb 3 u)) := by rw [← hw12]; exact (by repeat (first | (with_reducible exact U11) | (with_reducible refine Row4.alloc ?_ _) | (with_reducible refine Row4.drew ?_)))
    have apT_A := A11.lt
    have apT_B := B11.lt
    have apT_C := C11.lt
    have apT_S := S11.lt
    have apT_Y := Y11.lt
    have apT_Z := Z11.lt
    have apT_U := U11.lt
    have apT_0 := (BW11).size
    have T12 : Row4 w12 w11.heap.size (.int .u64 (lb 0 t)) (.int .u64 (lb 1 t)) (.int .u64 (lb 2 t)) (.int .u64 (lb 3 t)) := by rw [← hw12]; exact (by repeat (first | (with_reducible exact Row4.new _ _ _ _ _) | ((with_reducible refine Row4.new' _ ?_ _ _ _ _); (simp; done)) | (with_reducible refine Row4.alloc ?_ _) | (with_reducible refine Row4.drew ?_)))
    clear A11 B11 C11 S11 Y11 Z11 U11
    clear BW11
    clear hw12
    obtain ⟨Bc0, Bc1, Bc2, Bc3⟩ := B12.four
    obtain ⟨Bf0, Bf1, Bf2, Bf3⟩ := B12.free4
    obtain ⟨Sc0, Sc1, Sc2, Sc3⟩ := S12.four
    obtain ⟨Sf0, Sf1, Sf2, Sf3⟩ := S12.free4
    go_wp2_with fail
    (with_reducible refine (K6.out _).mono ?_)
    rintro e w13 ⟨rfl, hb⟩
    have BW13 : Below w.heap.size w w13 := btr (by repeat (first | (with_reducible exact BW12) | (with_reducible refine bal ?_ _) | (with_reducible refine Below.drew ?_) | (with_reducible refine bdn ?_ _))) hb
    have A13 : Row4 w13 w.heap.size (.int .u64 (lb 0 x)) (.int .u64 (lb 1 x)) (.int .u64 (lb 2 x)) (.int .u64 (lb 3 x)) := Row4.keep hb (by repeat (first | (with_reducible exact A12) | (with_reducible refine Row4.alloc ?_ _) | (with_reducible refine Row4.drew ?_)))
    have B13 : Row4 w13 (w.heap.size + 1) (.int .u64 (lb 0 y)) (.int .u64 (lb 1 y)) (.int .u64 (lb 2 y)) (.int .u64 (lb 3 y)) := Row4.keep hb (by repeat (first | (with_reducible exact B12) | (with_reducible refine Row4.alloc ?_ _) | (with_reducible refine Row4.drew ?_)))
    have C13 : Row4 w13 (w.heap.size + 1 + 1) (.int .u64 (lb 0 z)) (.int .u64 (lb 1 z)) (.int .u64 (lb 2 z)) (.int .u64 (lb 3 z)) := Row4.keep hb (by repeat (first | (with_reducible exact C12) | (with_reducible refine Row4.alloc ?_ _) | (with_reducible refine Row4.drew ?_)))
    have S13 : Row4 w13 w3.heap.size (.int .u64 (lb 0 s)) (.int .u64 (lb 1 s)) (.int .u64 (lb 2 s)) (.int .u64 (lb 3 s)) := Row4.keep hb (by repeat (first | (with_reducible exact S12) | (with_reducible refine Row4.alloc ?_ _) | (with_reducible refine Row4.drew ?_)))
    have Y13 : Row4 w13 w5.heap.size (.int .u64 (lb 0 s)) (.int .u64 (lb 1 s)) (.int .u64 (lb 2 s)) (.int .u64 (lb 3 s)) := Row4.keep hb (by repeat (first | (with_reducible exact Y12) | (with_reducible refine Row4.alloc ?_ _) | (with_reducible refine Row4.drew ?_)))
    have Z13 : Row4 w13 w7.heap.size (.int .u64 (lb 0 t)) (.int .u64 (lb 1 t)) (.int .u64 (lb 2 t)) (.int .u64 (lb 3 t)) := Row4.keep hb (by repeat (first | (with_reducible exact Z12) | (with_reducible refine Row4.alloc ?_ _) | (with_reducible refine Row4.drew ?_)))
    have U13 : Row4 w13 w9.heap.size (.int .u64 (lb 0 u)) (.int .u64 (lb 1 u)) (.int .u64 (lb 2 u)) (.int .u64 (lb 3 u)) := Row4.keep hb (by repeat (first | (with_reducible exact U12) | (with_reducible refine Row4.alloc ?_ _) | (with_reducible refine Row4.drew ?_)))
    have T13 : Row4 w13 w11.heap.size (.int .u64 (lb 0 t)) (.int .u64 (lb 1 t)) (.int .u64 (lb 2 t)) (.int .u64 (lb 3 t)) := Row4.keep hb (by repeat (first | (with_reducible exact T12) | (with_reducible refine Row4.alloc ?_ _) | (with_reducible refine Row4.drew ?_)))
    clear A12 B12 C12 S12 Y12 Z12 U12 T12
    clear BW12
    clear hb
    go_upto_region 8 with (fail)
    go_name_world w14 hw14
    have BW14 : Below w.heap.size w w14 := by rw [← hw14]; repeat (first | (with_reducible exact BW13) | (with_reducible refine bal ?_ _) | (with_reducible refine Below.drew ?_) | (with_reducible refine bdn ?_ _))
    have A14 : Row4 w14 w.heap.size (.int .u64 (lb 0 x)) (.int .u64 (lb 1 x)) (.int .u64 (lb 2 x)) (.int .u64 (lb 3 x)) := by rw [← hw14]; exact (by repeat (first | (with_reducible exact A13) | (with_reducible refine Row4.alloc ?_ _) | (with_reducible refine Row4.drew ?_)))
    have B14 : Row4 w14 (w.heap.size + 1) (.int .u64 (lb 0 y)) (.int .u64 (lb 1 y)) (.int .u64 (lb 2 y)) (.int .u64 (lb 3 y)) := by rw [← hw14]; exact (by repeat (first | (with_reducible exact B13) | (with_reducible refine Row4.alloc ?_ _) | (with_reducible refine Row4.drew ?_)))
    have C14 : Row4 w14 (w.heap.size + 1 + 1) (.int .u64 (lb 0 z)) (.int .u64 (lb 1 z)) (.int .u64 (lb 2 z)) (.int .u64 (lb 3 z)) := by rw [← hw14]; exact (by repeat (first | (with_reducible exact C13) | (with_reducible refine Row4.alloc ?_ _) | (with_reducible refine Row4.drew ?_)))
    have S14 : Row4 w14 w3.heap.size (.int .u64 (lb 0 s)) (.int .u64 (lb 1 s)) (.int .u64 (lb 2 s)) (.int .u64 (lb 3 s)) := by rw [← hw14]; exact (by repeat (first | (with_reducible exact S13) | (with_reducible refine Row4.alloc ?_ _) | (with_reducible refine Row4.drew ?_)))
    have Y14 : Row4 w14 w5.heap.size (.int .u64 (lb 0 s)) (.int .u64 (lb 1 s)) (.int .u64 (lb 2 s)) (.int .u64 (lb 3 s)) := by rw [← hw14]; exact (by repeat (first | (with_reducible exact Y13) | (with_reducible refine Row4.alloc ?_ _) | (with_reducible refine Row4.drew ?_)))
    have Z14 : Row4 w14 w7.heap.size (.int .u64 (lb 0 t)) (.int .u64 (lb 1 t)) (.int .u64 (lb 2 t)) (.int .u64 (lb 3 t)) := by rw [← hw14]; exact (by repeat (first | (with_reducible exact Z13) | (with_reducible refine Row4.alloc ?_ _) | (with_reducible refine Row4.drew ?_)))
    have U14 : Row4 w14 w9.heap.size (.int .u64 (lb 0 u)) (.int .u64 (lb 1 u)) (.int .u64 (lb 2 u)) (.int .u64 (lb 3 u)) := by rw [← hw14]; exact (by repeat (first | (with_reducible exact U13) | (with_reducible refine Row4.alloc ?_ _) | (with_reducible refine Row4.drew ?_)))
    have T14 : Row4 w14 w11.heap.size (.int .u64 (lb 0 t)) (.int .u64 (lb 1 t)) (.int .u64 (lb 2 t)) (.int .u64 (lb 3 t)) := by rw [← hw14]; exact (by repeat (first | (with_reducible exact T13) | (with_reducible refine Row4.alloc ?_ _) | (with_reducible refine Row4.drew ?_)))
    have apR_A := A13.lt
    have apR_B := B13.lt
    have apR_C := C13.lt
    have apR_S := S13.lt
    have apR_Y := Y13.lt
    have apR_Z := Z13.lt
    have apR_U := U13.lt
    have apR_T := T13.lt
    have apR_0 := (BW13).size
    have R14 : Row4 w14 w13.heap.size (.int .u64 (lb 0 x)) (.int .u64 (lb 1 x)) (.int .u64 (lb 2 x)) (.int .u64 (lb 3 x)) := by rw [← hw14]; exact (by repeat (first | (with_reducible exact Row4.new _ _ _ _ _) | ((with_reducible refine Row4.new' _ ?_ _ _ _ _); (simp; done)) | (with_reducible refine Row4.alloc ?_ _) | (with_reducible refine Row4.drew ?_)))
    clear A13 B13 C13 S13 Y13 Z13 U13 T13
    clear BW13
    clear hw14
    obtain ⟨Ac0, Ac1, Ac2, Ac3⟩ := A14.four
    obtain ⟨Af0, Af1, Af2, Af3⟩ := A14.free4
    obtain ⟨Sc0, Sc1, Sc2, Sc3⟩ := S14.four
    obtain ⟨Sf0, Sf1, Sf2, Sf3⟩ := S14.free4
    obtain ⟨Yc0, Yc1, Yc2, Yc3⟩ := Y14.four
    obtain ⟨Yf0, Yf1, Yf2, Yf3⟩ := Y14.free4
    obtain ⟨Zc0, Zc1, Zc2, Zc3⟩ := Z14.four
    obtain ⟨Zf0, Zf1, Zf2, Zf3⟩ := Z14.free4
    obtain ⟨Tc0, Tc1, Tc2, Tc3⟩ := T14.four
    obtain ⟨Tf0, Tf1, Tf2, Tf3⟩ := T14.free4
    obtain ⟨Rc0, Rc1, Rc2, Rc3⟩ := R14.four
    obtain ⟨Rf0, Rf1, Rf2, Rf3⟩ := R14.free4
    have hs := HS.out; have ht := HTT.out; have hx := HX.out
    go_upto_region 10 with (fail)
    clear hs ht hx
    clear Ac0 Af0 Ac1 Af1 Ac2 Af2 Ac3 Af3
    clear Sc0 Sf0 Sc1 Sf1 Sc2 Sf2 Sc3 Sf3
    clear Yc0 Yf0 Yc1 Yf1 Yc2 Yf2 Yc3 Yf3
    clear Zc0 Zf0 Zc1 Zf1 Zc2 Zf2 Zc3 Zf3
    clear Tc0 Tf0 Tc1 Tf1 Tc2 Tf2 Tc3 Tf3
    clear Rc0 Rf0 Rc1 Rf1 Rc2 Rf2 Rc3 Rf3
    obtain ⟨Ac0, Ac1, Ac2, Ac3⟩ := A14.four
    obtain ⟨Af0, Af1, Af2, Af3⟩ := A14.free4
    go_upto_region 12 with (fail)
    rw [HN.out]
    go_name_world w15 hw15
    have BW15 : Below w.heap.size w w15 := by rw [← hw15]; repeat (first | (with_reducible exact BW14) | (with_reducible refine bal ?_ _) | (with_reducible refine Below.drew ?_) | (with_reducible refine bdn ?_ _))
    have A15 : Row4 w15 w.heap.size (.int .u64 (lb 0 x)) (.int .u64 (lb 1 x)) (.int .u64 (lb 2 x)) (.int .u64 (lb 3 x)) := by rw [← hw15]; exact (by repeat (first | (with_reducible exact A14) | (with_reducible refine Row4.alloc ?_ _) | (with_reducible refine Row4.drew ?_)))
    have B15 : Row4 w15 (w.heap.size + 1) (.int .u64 (lb 0 y)) (.int .u64 (lb 1 y)) (.int .u64 (lb 2 y)) (.int .u64 (lb 3 y)) := by rw [← hw15]; exact (by repeat (first | (with_reducible exact B14) | (with_reducible refine Row4.alloc ?_ _) | (with_reducible refine Row4.drew ?_)))
    have apM_A := A14.lt
    have apM_B := B14.lt
    have apM_0 := (BW14).size
    have M15 : Row4 w15 w14.heap.size (.int .u64 (lb 0 x)) (.int .u64 (lb 1 x)) (.int .u64 (lb 2 x)) (.int .u64 (lb 3 x)) := by rw [← hw15]; exact (by repeat (first | (with_reducible exact Row4.new _ _ _ _ _) | ((with_reducible refine Row4.new' _ ?_ _ _ _ _); (simp; done)) | (with_reducible refine Row4.alloc ?_ _) | (with_reducible refine Row4.drew ?_)))
    clear A14 B14
    clear BW14
    clear hw15
    go_wp2_with (fail)
    go_loopw [23] (fun v23 wr => ∃ j : Nat, v23 = .int .i64 (j : Int) ∧ (j : Int) ≤ n ∧ Row4 wr w14.heap.size (.int .u64 (lb 0 (p j))) (.int .u64 (lb 1 (p j))) (.int .u64 (lb 2 (p j))) (.int .u64 (lb 3 (p j))) ∧ Row4 wr w.heap.size (.int .u64 (lb 0 x)) (.int .u64 (lb 1 x)) (.int .u64 (lb 2 x)) (.int .u64 (lb 3 x)) ∧ Row4 wr (w.heap.size + 1) (.int .u64 (lb 0 y)) (.int .u64 (lb 1 y)) (.int .u64 (lb 2 y)) (.int .u64 (lb 3 y)) ∧ Below w.heap.size w wr) (fun v23 _ => (n - intOf v23).toNat)
    case atStart => exact ⟨0, rfl, by omega, by rw [HP0.out]; exact M15, A15, B15, BW15⟩
    case round =>
      obtain ⟨j, rfl, hj, Mr, Ar, Br, hw⟩ := hrel
      rename World => wr
      clear A15 B15 M15 BW15
      by_cases hlt : (j : Int) < n
      · obtain ⟨Mc0, Mc1, Mc2, Mc3⟩ := Mr.four
        go_wp2_with fail
        (with_reducible refine (K7.out j hlt _).mono ?_)
        rintro e wl ⟨rfl, hb⟩
        have M2 := Row4.keep hb Mr
        have A2 := Row4.keep hb Ar
        have B2 := Row4.keep hb Br
        have hw2 := btr hw hb
        have ltm := M2.lt
        clear hb Mc0 Mc1 Mc2 Mc3 Mr Ar Br hw
        obtain ⟨Mc0, Mc1, Mc2, Mc3⟩ := M2.four
        obtain ⟨Mf0, Mf1, Mf2, Mf3⟩ := M2.free4
        go_wp2
        go_roundw
        case rel => exact ⟨j + 1, rfl, by omega, Row4.set4 M2 _ _ _ _, Row4.set (Row4.set (Row4.set (Row4.set A2 (by omega) _) (by omega) _) (by omega) _) (by omega) _, Row4.set (Row4.set (Row4.set (Row4.set B2 (by omega) _) (by omega) _) (by omega) _) (by omega) _, bsc4 hw2 (by omega) _ _ _ _⟩
        case measure => simp [intOf]; omega
      · have hjn : (j : Int) = n := by omega
        have hpj : p j = q := by have h := HPN.out; rwa [← hjn, Int.toNat_natCast] at h
        rw [hpj] at Mr
        clear hpj hjn
        have A0 := Ar
        clear Ar
        have B0 := Br
        clear Br
        have M0 := Mr
        clear Mr
        obtain ⟨Ac0, Ac1, Ac2, Ac3⟩ := A0.four
        obtain ⟨Af0, Af1, Af2, Af3⟩ := A0.free4
        go_wp2_with fail
        (with_reducible refine (K8.out _).mono ?_)
        rintro e w16 ⟨rfl, hb⟩
        have BW16 : Below w.heap.size w w16 := btr (by repeat (first | (with_reducible exact hw) | (with_reducible refine bal ?_ _) | (with_reducible refine Below.drew ?_) | (with_reducible refine bdn ?_ _))) hb
        have A16 : Row4 w16 w.heap.size (.int .u64 (lb 0 x)) (.int .u64 (lb 1 x)) (.int .u64 (lb 2 x)) (.int .u64 (lb 3 x)) := Row4.keep hb (by repeat (first | (with_reducible exact A0) | (with_reducible refine Row4.alloc ?_ _) | (with_reducible refine Row4.drew ?_)))
        have B16 : Row4 w16 (w.heap.size + 1) (.int .u64 (lb 0 y)) (.int .u64 (lb 1 y)) (.int .u64 (lb 2 y)) (.int .u64 (lb 3 y)) := Row4.keep hb (by repeat (first | (with_reducible exact B0) | (with_reducible refine Row4.alloc ?_ _) | (with_reducible refine Row4.drew ?_)))
        have M16 : Row4 w16 w14.heap.size (.int .u64 (lb 0 q)) (.int .u64 (lb 1 q)) (.int .u64 (lb 2 q)) (.int .u64 (lb 3 q)) := Row4.keep hb (by repeat (first | (with_reducible exact M0) | (with_reducible refine Row4.alloc ?_ _) | (with_reducible refine Row4.drew ?_)))
        clear A0 B0 M0
        clear hb
        go_upto_region 17 with (fail)
        go_name_world w17 hw17
        have BW17 : Below w.heap.size w w17 := by rw [← hw17]; repeat (first | (with_reducible exact BW16) | (with_reducible refine bal ?_ _) | (with_reducible refine Below.drew ?_) | (with_reducible refine bdn ?_ _))
        have A17 : Row4 w17 w.heap.size (.int .u64 (lb 0 x)) (.int .u64 (lb 1 x)) (.int .u64 (lb 2 x)) (.int .u64 (lb 3 x)) := by rw [← hw17]; exact (by repeat (first | (with_reducible exact A16) | (with_reducible refine Row4.alloc ?_ _) | (with_reducible refine Row4.drew ?_)))
        have B17 : Row4 w17 (w.heap.size + 1) (.int .u64 (lb 0 y)) (.int .u64 (lb 1 y)) (.int .u64 (lb 2 y)) (.int .u64 (lb 3 y)) := by rw [← hw17]; exact (by repeat (first | (with_reducible exact B16) | (with_reducible refine Row4.alloc ?_ _) | (with_reducible refine Row4.drew ?_)))
        have M17 : Row4 w17 w14.heap.size (.int .u64 (lb 0 q)) (.int .u64 (lb 1 q)) (.int .u64 (lb 2 q)) (.int .u64 (lb 3 q)) := by rw [← hw17]; exact (by repeat (first | (with_reducible exact M16) | (with_reducible refine Row4.alloc ?_ _) | (with_reducible refine Row4.drew ?_)))
        have apL_A := A16.lt
        have apL_B := B16.lt
        have apL_M := M16.lt
        have apL_0 := (BW16).size
        have L17 : Row4 w17 w16.heap.size (.int .u64 (lb 0 q)) (.int .u64 (lb 1 q)) (.int .u64 (lb 2 q)) (.int .u64 (lb 3 q)) := by rw [← hw17]; exact (by repeat (first | (with_reducible exact Row4.new _ _ _ _ _) | ((with_reducible refine Row4.new' _ ?_ _ _ _ _); (simp; done)) | (with_reducible refine Row4.alloc ?_ _) | (with_reducible refine Row4.drew ?_)))
        clear A16 B16 M16
        clear BW16
        clear hw17
        have hx := HX.out; have hq := HQ.out
        obtain ⟨qA0, qA1, qA2, qA3⟩ := A17.four
        have gA0 := cell_regrown qA0
        have gA1 := cell_regrown qA1
        have gA2 := cell_regrown qA2
        have gA3 := cell_regrown qA3
        clear qA0 qA1 qA2 qA3
        obtain ⟨qB0, qB1, qB2, qB3⟩ := B17.four
        have gB0 := cell_regrown qB0
        have gB1 := cell_regrown qB1
        have gB2 := cell_regrown qB2
        have gB3 := cell_regrown qB3
        clear qB0 qB1 qB2 qB3
        obtain ⟨qL0, qL1, qL2, qL3⟩ := L17.four
        have gL0 := cell_regrown qL0
        have gL1 := cell_regrown qL1
        have gL2 := cell_regrown qL2
        have gL3 := cell_regrown qL3
        clear qL0 qL1 qL2 qL3
        obtain ⟨qM0, qM1, qM2, qM3⟩ := M17.four
        have gM0 := cell_regrown qM0
        have gM1 := cell_regrown qM1
        have gM2 := cell_regrown qM2
        have gM3 := cell_regrown qM3
        clear qM0 qM1 qM2 qM3
        have cq0 := fun (d : Nat) (os : Array Obj) => Calls.regrown_of (w := w17) (d := d) (os := os) (told_true _ (tab_on HT.out (btr BW17 (below_regrown w17 d os))))
        have cq1 := fun (d : Nat) (os : Array Obj) => Calls.regrown_of (w := w17) (d := d) (os := os) (K9.out _)
        have cq2 := fun (d : Nat) (os : Array Obj) => Calls.regrown_of (w := w17) (d := d) (os := os) (K10.out _)
        have cq3 := fun (d : Nat) (os : Array Obj) => Calls.regrown_of (w := w17) (d := d) (os := os) (K11.out _)
        refine wp_region_quiet_below (by kernel_rfl) (by kernel_rfl) ?_
        repeat (first | go_big_quiet_step ((first | (with_reducible exact cq0 _ _) | (with_reducible exact cq1 _ _) | (with_reducible exact cq2 _ _) | (with_reducible exact cq3 _ _))) | quiet_step (first | (with_reducible exact cq0 _ _) | (with_reducible exact cq1 _ _) | (with_reducible exact cq2 _ _) | (with_reducible exact cq3 _ _)))
        refine wpQuiet_nil ?_
        intro _ hw'
        obtain ⟨⟨dq, osq⟩, hw''⟩ := hw'
        subst hw''
        clear gA0 gA1 gA2 gA3 gB0 gB1 gB2 gB3 gL0 gL1 gL2 gL3 gM0 gM1 gM2 gM3 cq0 cq1 cq2 cq3
        have hb := below_regrown w17 dq osq
        generalize grow (redrawn w17 dq) osq = w18 at *
        have BW18 : Below w.heap.size w w18 := btr BW17 hb
        have A18 : Row4 w18 w.heap.size (.int .u64 (lb 0 x)) (.int .u64 (lb 1 x)) (.int .u64 (lb 2 x)) (.int .u64 (lb 3 x)) := Row4.keep hb A17
        have B18 : Row4 w18 (w.heap.size + 1) (.int .u64 (lb 0 y)) (.int .u64 (lb 1 y)) (.int .u64 (lb 2 y)) (.int .u64 (lb 3 y)) := Row4.keep hb B17
        have M18 : Row4 w18 w14.heap.size (.int .u64 (lb 0 q)) (.int .u64 (lb 1 q)) (.int .u64 (lb 2 q)) (.int .u64 (lb 3 q)) := Row4.keep hb M17
        have L18 : Row4 w18 w16.heap.size (.int .u64 (lb 0 q)) (.int .u64 (lb 1 q)) (.int .u64 (lb 2 q)) (.int .u64 (lb 3 q)) := Row4.keep hb L17
        clear A17 B17 M17 L17 BW17 hb
        go_wp2
        go_ret
        refine ⟨?_, BW18⟩
        exact congrArg Ending.returned (congrArg Value.bool HCD.out)

end Go.Proofs.YtbegblkfdnaloaaDoor
