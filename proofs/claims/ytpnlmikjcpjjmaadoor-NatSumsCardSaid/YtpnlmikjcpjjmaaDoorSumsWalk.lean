/-
  entrepotlaw1.NatSums answers true for all numbers of four words and every word. The table internal/strconv.uint64pow10 reads as its initialiser lays it.
-/
import Derived.Test.YtpnlmikjcpjjmaaDoorSumsA
namespace Go.Proofs.YtpnlmikjcpjjmaaDoor
open Go.RowKit Go.Shelf
attribute [local go_sem ↓] eql_nat neq_nat

theorem both44 {W : World} {b c : Nat} {v0 v1 v2 v3 u0 u1 u2 u3 : Value} (h : Row4 W b v0 v1 v2 v3) (k : Row4 W c u0 u1 u2 u3) :
    W.cell? ⟨b, 0, none⟩ = some v0 ∧ W.cell? ⟨b, 1, none⟩ = some v1 ∧ W.cell? ⟨b, 2, none⟩ = some v2 ∧ W.cell? ⟨b, 3, none⟩ = some v3 ∧ W.cell? ⟨c, 0, none⟩ = some u0 ∧ W.cell? ⟨c, 1, none⟩ = some u1 ∧ W.cell? ⟨c, 2, none⟩ = some u2 ∧ W.cell? ⟨c, 3, none⟩ = some u3 :=
  ⟨h.four.1, h.four.2.1, h.four.2.2.1, h.four.2.2.2, k.four⟩
theorem cmp_same (x y : Nat) : cmpv (x : Int) (y : Int) = rcv x y := by
  unfold cmpv rcv
  by_cases h : x < y
  · rw [if_pos h, if_pos (by omega)]
  · by_cases h2 : y < x
    · rw [if_neg h, if_pos h2, if_neg (by omega)]
      first | rw [if_pos (by omega)] | rw [if_neg (by omega)] | skip
    · have : x = y := by omega
      subst this
      simp
set_option maxHeartbeats 4000000 in
set_option maxRecDepth 100000 in
theorem sums_less (x y m : Nat) (hx : x < 2 ^ 256) (hy : y < 2 ^ 256) (hm : m < 18446744073709551616) (hxy : x < y) (w : World) (hT : Tab w) :
    Calls Tryd.prog 3 #[N4 x, N4 y, .int .u64 m] w fun e w' => e = .returned (.bool true) ∧ Below w.heap.size w w' := by
  have L1 := Lib.hid (len_of 8 (show x < 2 ^ (32 * 8) from hx) (by decide))
  have L2 := Lib.hid (len_of 8 (show y < 2 ^ (32 * 8) from hy) (by decide))
  have L3 := Lib.hid (len_of 2 (show m < 2 ^ (32 * 2) from hm) (by decide))
  have HX := Lib.hid hx; have HY := Lib.hid hy; have HM := Lib.hid hm; have HT := Lib.hid hT; have HXY := Lib.hid hxy; clear hx hy hm hT hxy
  have K1 : Hid (∀ W, Calls Tryd.prog 19 #[N4 x, N4 y] W fun e w' => e = .returned (.tuple #[N4 (nz (x + y)), .bool (decide (x + y < 2 ^ 256))]) ∧ Below W.heap.size W w') := fun W => nadd x y HX.out HY.out W
  have K3 : Hid (∀ W, Calls Tryd.prog 21 #[N4 x, .int .u64 m] W fun e w' => e = .returned (.tuple #[N4 (nz (x * m)), .bool (decide (x * m < 2 ^ 256))]) ∧ Below W.heap.size W w') := fun W => nmul x m HX.out HM.out W
  obtain ⟨p, hp⟩ : ∃ p, p = decide (x + y < 2 ^ 256) := ⟨_, rfl⟩
  obtain ⟨o, ho⟩ : ∃ o, o = decide (x * m < 2 ^ 256) := ⟨_, rfl⟩
  obtain ⟨sa, hsa⟩ : ∃ sa, sa = nz (x + y) := ⟨_, rfl⟩
  obtain ⟨sm, hsm⟩ : ∃ sm, sm = nz (x * m) := ⟨_, rfl⟩
  rw [← hp, ← hsa] at K1
  rw [← ho, ← hsm] at K3
  have T1 : Hid (∀ {s : Value} {W : World}, DR W s (x + y) → Calls Tryd.prog 22 #[N4 sa, .bool p, s] W fun e w' => e = .returned (.bool true) ∧ Below W.heap.size W w') := fun h => by rw [hsa, hp]; exact two_any h
  have T2 : Hid (∀ {s : Value} {W : World}, DR W s (x * m) → Calls Tryd.prog 22 #[N4 sm, .bool o, s] W fun e w' => e = .returned (.bool true) ∧ Below W.heap.size W w') := fun h => by rw [hsm, ho]; exact two_any h
  clear hp ho hsa hsm
  have KC : Hid (∀ W, Calls Tryd.prog 29 #[N4 x, N4 y] W fun e w' => e = .returned (.int .i64 (rcv x y)) ∧ Below W.heap.size W w') := fun W => by have := cmp_any x y HX.out HY.out W; rw [cmp_same] at this; exact this
  have KD : Hid (∀ W, Calls Tryd.prog 29 #[N4 x, N4 x] W fun e w' => e = .returned (.int .i64 0) ∧ Below W.heap.size W w') := fun W => by have := cmp_any x x HX.out HX.out W; rw [cmp_same, rcv_eq] at this; exact this
  have hcv : rcv x y = -1 := rcv_lt HXY.out
  rw [hcv] at KC
  have HCV := Lib.hid hcv; clear hcv
  have HZ := Lib.hid (show eq4 0 0 0 0 0 0 0 0 = true by decide)
  have hsu := fun W => sub_under x y HX.out HY.out (by have := HXY.out; omega) W
  simp only [N4, lb_zero] at hsu
  have KS := Lib.hid hsu; clear hsu
  go_enter Tryd.func3, Tryd.ntmps3
  go_upto_region 1 with (fail)
  go_name_world w1 hw1
  have BW1 : Below w.heap.size w w1 := by rw [← hw1]; repeat (first | (with_reducible exact Below.refl _ _) | (with_reducible refine bal ?_ _) | (with_reducible refine Below.drew ?_) | (with_reducible refine bdn ?_ _))
  have A1 : Row4 w1 w.heap.size (.int .u64 (lb 0 x)) (.int .u64 (lb 1 x)) (.int .u64 (lb 2 x)) (.int .u64 (lb 3 x)) := by rw [← hw1]; exact (by repeat (first | (with_reducible exact Row4.new _ _ _ _ _) | ((with_reducible refine Row4.new' _ ?_ _ _ _ _); (simp; done)) | (with_reducible refine Row4.alloc ?_ _) | (with_reducible refine Row4.drew ?_)))
  have B1 : Row4 w1 (w.heap.size + 1) (.int .u64 (lb 0 y)) (.int .u64 (lb 1 y)) (.int .u64 (lb 2 y)) (.int .u64 (lb 3 y)) := by rw [← hw1]; exact (by repeat (first | (with_reducible exact Row4.new _ _ _ _ _) | ((with_reducible refine Row4.new' _ ?_ _ _ _ _); (simp; done)) | (with_reducible refine Row4.alloc ?_ _) | (with_reducible refine Row4.drew ?_)))
  clear hw1
  have lt_A := A1.lt
  have lt_B := B1.lt
  go_region_held3 (fun w' => w'.cell? ⟨w.heap.size, 0, none⟩ = some (.int .u64 (lb 0 x)) ∧ w'.cell? ⟨w.heap.size, 1, none⟩ = some (.int .u64 (lb 1 x)) ∧ w'.cell? ⟨w.heap.size, 2, none⟩ = some (.int .u64 (lb 2 x)) ∧ w'.cell? ⟨w.heap.size, 3, none⟩ = some (.int .u64 (lb 3 x)) ∧ w'.cell? ⟨(w.heap.size + 1), 0, none⟩ = some (.int .u64 (lb 0 y)) ∧ w'.cell? ⟨(w.heap.size + 1), 1, none⟩ = some (.int .u64 (lb 1 y)) ∧ w'.cell? ⟨(w.heap.size + 1), 2, none⟩ = some (.int .u64 (lb 2 y)) ∧ w'.cell? ⟨(w.heap.size + 1), 3, none⟩ = some (.int .u64 (lb 3 y)))
    ((refine both44 ?_ ?_; (focus (repeat (first | (with_reducible assumption) | (with_reducible refine Row4.alloc ?_ _) | (with_reducible refine Row4.drew ?_) | (with_reducible refine Row4.drewN ?_ _)))); (focus (repeat (first | (with_reducible assumption) | (with_reducible refine Row4.alloc ?_ _) | (with_reducible refine Row4.drew ?_) | (with_reducible refine Row4.drewN ?_ _)))); done))
    (first | (go_at_call 18; (with_reducible refine (rof x HX.out _).mono ?_); rintro e wf1_1 ⟨s1, rfl, hr1_1, hb1_1⟩; have hx1_1 : Below w1.heap.size w1 wf1_1 := btr (by repeat (first | (with_reducible exact Below.refl _ _) | (with_reducible refine bal ?_ _) | (with_reducible refine Below.drew ?_) | (with_reducible refine bdn ?_ _))) hb1_1; have Af1 : Row4 wf1_1 w.heap.size (.int .u64 (lb 0 x)) (.int .u64 (lb 1 x)) (.int .u64 (lb 2 x)) (.int .u64 (lb 3 x)) := Row4.keep hb1_1 (by repeat (first | (with_reducible assumption) | (with_reducible refine Row4.alloc ?_ _) | (with_reducible refine Row4.drew ?_) | (with_reducible refine Row4.drewN ?_ _))); have Bf1 : Row4 wf1_1 (w.heap.size + 1) (.int .u64 (lb 0 y)) (.int .u64 (lb 1 y)) (.int .u64 (lb 2 y)) (.int .u64 (lb 3 y)) := Row4.keep hb1_1 (by repeat (first | (with_reducible assumption) | (with_reducible refine Row4.alloc ?_ _) | (with_reducible refine Row4.drew ?_) | (with_reducible refine Row4.drewN ?_ _)))) | (go_at_call 18; (with_reducible refine (rof y HY.out _).mono ?_); rintro e wf1_2 ⟨s2, rfl, hr1_2, hb1_2⟩; have hx1_2 : Below wf1_1.heap.size wf1_1 wf1_2 := btr (by repeat (first | (with_reducible exact Below.refl _ _) | (with_reducible refine bal ?_ _) | (with_reducible refine Below.drew ?_) | (with_reducible refine bdn ?_ _))) hb1_2; have Af2 : Row4 wf1_2 w.heap.size (.int .u64 (lb 0 x)) (.int .u64 (lb 1 x)) (.int .u64 (lb 2 x)) (.int .u64 (lb 3 x)) := Row4.keep hb1_2 (by repeat (first | (with_reducible assumption) | (with_reducible refine Row4.alloc ?_ _) | (with_reducible refine Row4.drew ?_) | (with_reducible refine Row4.drewN ?_ _))); have Bf2 : Row4 wf1_2 (w.heap.size + 1) (.int .u64 (lb 0 y)) (.int .u64 (lb 1 y)) (.int .u64 (lb 2 y)) (.int .u64 (lb 3 y)) := Row4.keep hb1_2 (by repeat (first | (with_reducible assumption) | (with_reducible refine Row4.alloc ?_ _) | (with_reducible refine Row4.drew ?_) | (with_reducible refine Row4.drewN ?_ _))); have DXf1_2 : DR wf1_2 s1 x := DR.keep hx1_2 hr1_1))
  have BW2 : Below w.heap.size w wf1_1 := btr (by repeat (first | (with_reducible exact BW1) | (with_reducible refine bal ?_ _) | (with_reducible refine Below.drew ?_) | (with_reducible refine bdn ?_ _))) hb1_1
  have A2 : Row4 wf1_1 w.heap.size (.int .u64 (lb 0 x)) (.int .u64 (lb 1 x)) (.int .u64 (lb 2 x)) (.int .u64 (lb 3 x)) := Row4.keep hb1_1 (by repeat (first | (with_reducible exact A1) | (with_reducible refine Row4.alloc ?_ _) | (with_reducible refine Row4.drew ?_)))
  have B2 : Row4 wf1_1 (w.heap.size + 1) (.int .u64 (lb 0 y)) (.int .u64 (lb 1 y)) (.int .u64 (lb 2 y)) (.int .u64 (lb 3 y)) := Row4.keep hb1_1 (by repeat (first | (with_reducible exact B1) | (with_reducible refine Row4.alloc ?_ _) | (with_reducible refine Row4.drew ?_)))
  clear A1 B1 Af1 Bf1 BW1
  have BW3 : Below w.heap.size w wf1_2 := btr (by repeat (first | (with_reducible exact BW2) | (with_reducible refine bal ?_ _) | (with_reducible refine Below.drew ?_) | (with_reducible refine bdn ?_ _))) hb1_2
  have A3 : Row4 wf1_2 w.heap.size (.int .u64 (lb 0 x)) (.int .u64 (lb 1 x)) (.int .u64 (lb 2 x)) (.int .u64 (lb 3 x)) := Row4.keep hb1_2 (by repeat (first | (with_reducible exact A2) | (with_reducible refine Row4.alloc ?_ _) | (with_reducible refine Row4.drew ?_)))
  have B3 : Row4 wf1_2 (w.heap.size + 1) (.int .u64 (lb 0 y)) (.int .u64 (lb 1 y)) (.int .u64 (lb 2 y)) (.int .u64 (lb 3 y)) := Row4.keep hb1_2 (by repeat (first | (with_reducible exact B2) | (with_reducible refine Row4.alloc ?_ _) | (with_reducible refine Row4.drew ?_)))
  clear A2 B2 Af2 Bf2 BW2
  have DX3 : DR wf1_2 s1 x := DXf1_2
  have DY3 : DR wf1_2 s2 y := hr1_2
  clear hb1_1 hx1_1
  clear hb1_2 hx1_2
  try clear DXf1_1
  try clear DYf1_1
  try clear DXf1_2
  try clear DYf1_2
  try clear hr1_1
  try clear hr1_2
  obtain ⟨Ac0, Ac1, Ac2, Ac3⟩ := A3.four
  obtain ⟨Af0, Af1, Af2, Af3⟩ := A3.free4
  obtain ⟨Bc0, Bc1, Bc2, Bc3⟩ := B3.four
  obtain ⟨Bf0, Bf1, Bf2, Bf3⟩ := B3.free4
  go_wp2_with fail
  refine (K1.out _).mono ?_
  rintro e w4 ⟨rfl, hb⟩
  have hbX : Below wf1_2.heap.size wf1_2 w4 := btr (by repeat (first | (with_reducible exact Below.refl _ _) | (with_reducible refine bal ?_ _) | (with_reducible refine Below.drew ?_) | (with_reducible refine bdn ?_ _))) hb
  have DX4 : DR w4 s1 x := DR.keep hbX DX3
  have DY4 : DR w4 s2 y := DR.keep hbX DY3
  clear DX3 DY3
  clear hbX
  have BW4 : Below w.heap.size w w4 := btr (by repeat (first | (with_reducible exact BW3) | (with_reducible refine bal ?_ _) | (with_reducible refine Below.drew ?_) | (with_reducible refine bdn ?_ _))) hb
  have A4 : Row4 w4 w.heap.size (.int .u64 (lb 0 x)) (.int .u64 (lb 1 x)) (.int .u64 (lb 2 x)) (.int .u64 (lb 3 x)) := Row4.keep hb (by repeat (first | (with_reducible exact A3) | (with_reducible refine Row4.alloc ?_ _) | (with_reducible refine Row4.drew ?_)))
  have B4 : Row4 w4 (w.heap.size + 1) (.int .u64 (lb 0 y)) (.int .u64 (lb 1 y)) (.int .u64 (lb 2 y)) (.int .u64 (lb 3 y)) := Row4.keep hb (by repeat (first | (with_reducible exact B3) | (with_reducible refine Row4.alloc ?_ _) | (with_reducible refine Row4.drew ?_)))
  clear A3 B3
  clear BW3
  clear hb
  go_upto_region 3 with (fail)
  go_name_world w5 hw5
  have BW5 : Below w.heap.size w w5 := by rw [← hw5]; repeat (first | (with_reducible exact BW4) | (with_reducible refine bal ?_ _) | (with_reducible refine Below.drew ?_) | (with_reducible refine bdn ?_ _))
  have hbX : Below w4.heap.size w4 w5 := by rw [← hw5]; repeat (first | (with_reducible exact Below.refl _ _) | (with_reducible refine bal ?_ _) | (with_reducible refine Below.drew ?_) | (with_reducible refine bdn ?_ _))
  have DX5 : DR w5 s1 x := DR.keep hbX DX4
  have DY5 : DR w5 s2 y := DR.keep hbX DY4
  clear hbX DX4 DY4
  have A5 : Row4 w5 w.heap.size (.int .u64 (lb 0 x)) (.int .u64 (lb 1 x)) (.int .u64 (lb 2 x)) (.int .u64 (lb 3 x)) := by rw [← hw5]; exact (by repeat (first | (with_reducible exact A4) | (with_reducible refine Row4.alloc ?_ _) | (with_reducible refine Row4.drew ?_)))
  have B5 : Row4 w5 (w.heap.size + 1) (.int .u64 (lb 0 y)) (.int .u64 (lb 1 y)) (.int .u64 (lb 2 y)) (.int .u64 (lb 3 y)) := by rw [← hw5]; exact (by repeat (first | (with_reducible exact B4) | (with_reducible refine Row4.alloc ?_ _) | (with_reducible refine Row4.drew ?_)))
  have apS_A := A4.lt
  have apS_B := B4.lt
  have apS_0 := (BW4).size
  have S5 : Row4 w5 w4.heap.size (.int .u64 (lb 0 sa)) (.int .u64 (lb 1 sa)) (.int .u64 (lb 2 sa)) (.int .u64 (lb 3 sa)) := by rw [← hw5]; exact (by repeat (first | (with_reducible exact Row4.new _ _ _ _ _) | ((with_reducible refine Row4.new' _ ?_ _ _ _ _); (simp; done)) | (with_reducible refine Row4.alloc ?_ _) | (with_reducible refine Row4.drew ?_)))
  clear A4 B4
  clear BW4
  clear hw5
  obtain ⟨Ac0, Ac1, Ac2, Ac3⟩ := A5.four
  obtain ⟨Af0, Af1, Af2, Af3⟩ := A5.free4
  obtain ⟨Bc0, Bc1, Bc2, Bc3⟩ := B5.four
  obtain ⟨Bf0, Bf1, Bf2, Bf3⟩ := B5.free4
  go_wp2_with fail
  refine (KS.out _).mono ?_
  rintro e w6 ⟨rfl, hb⟩
  have hbX : Below w5.heap.size w5 w6 := btr (by repeat (first | (with_reducible exact Below.refl _ _) | (with_reducible refine bal ?_ _) | (with_reducible refine Below.drew ?_) | (with_reducible refine bdn ?_ _))) hb
  have DX6 : DR w6 s1 x := DR.keep hbX DX5
  have DY6 : DR w6 s2 y := DR.keep hbX DY5
  clear DX5 DY5
  clear hbX
  have BW6 : Below w.heap.size w w6 := btr (by repeat (first | (with_reducible exact BW5) | (with_reducible refine bal ?_ _) | (with_reducible refine Below.drew ?_) | (with_reducible refine bdn ?_ _))) hb
  have A6 : Row4 w6 w.heap.size (.int .u64 (lb 0 x)) (.int .u64 (lb 1 x)) (.int .u64 (lb 2 x)) (.int .u64 (lb 3 x)) := Row4.keep hb (by repeat (first | (with_reducible exact A5) | (with_reducible refine Row4.alloc ?_ _) | (with_reducible refine Row4.drew ?_)))
  have B6 : Row4 w6 (w.heap.size + 1) (.int .u64 (lb 0 y)) (.int .u64 (lb 1 y)) (.int .u64 (lb 2 y)) (.int .u64 (lb 3 y)) := Row4.keep hb (by repeat (first | (with_reducible exact B5) | (with_reducible refine Row4.alloc ?_ _) | (with_reducible refine Row4.drew ?_)))
  have S6 : Row4 w6 w4.heap.size (.int .u64 (lb 0 sa)) (.int .u64 (lb 1 sa)) (.int .u64 (lb 2 sa)) (.int .u64 (lb 3 sa)) := Row4.keep hb (by repeat (first | (with_reducible exact S5) | (with_reducible refine Row4.alloc ?_ _) | (with_reducible refine Row4.drew ?_)))
  clear A5 B5 S5
  clear BW5
  clear hb
  go_upto_region 4 with (fail)
  go_name_world w7 hw7
  have BW7 : Below w.heap.size w w7 := by rw [← hw7]; repeat (first | (with_reducible exact BW6) | (with_reducible refine bal ?_ _) | (with_reducible refine Below.drew ?_) | (with_reducible refine bdn ?_ _))
  have hbX : Below w6.heap.size w6 w7 := by rw [← hw7]; repeat (first | (with_reducible exact Below.refl _ _) | (with_reducible refine bal ?_ _) | (with_reducible refine Below.drew ?_) | (with_reducible refine bdn ?_ _))
  have DX7 : DR w7 s1 x := DR.keep hbX DX6
  have DY7 : DR w7 s2 y := DR.keep hbX DY6
  clear hbX DX6 DY6
  have A7 : Row4 w7 w.heap.size (.int .u64 (lb 0 x)) (.int .u64 (lb 1 x)) (.int .u64 (lb 2 x)) (.int .u64 (lb 3 x)) := by rw [← hw7]; exact (by repeat (first | (with_reducible exact A6) | (with_reducible refine Row4.alloc ?_ _) | (with_reducible refine Row4.drew ?_)))
  have B7 : Row4 w7 (w.heap.size + 1) (.int .u64 (lb 0 y)) (.int .u64 (lb 1 y)) (.int .u64 (lb 2 y)) (.int .u64 (lb 3 y)) := by rw [← hw7]; exact (by repeat (first | (with_reducible exact B6) | (with_reducible refine Row4.alloc ?_ _) | (with_reducible refine Row4.drew ?_)))
  have S7 : Row4 w7 w4.heap.size (.int .u64 (lb 0 sa)) (.int .u64 (lb 1 sa)) (.int .u64 (lb 2 sa)) (.int .u64 (lb 3 sa)) := by rw [← hw7]; exact (by repeat (first | (with_reducible exact S6) | (with_reducible refine Row4.alloc ?_ _) | (with_reducible refine Row4.drew ?_)))
  have apE_A := A6.lt
  have apE_B := B6.lt
  have apE_S := S6.lt
  have apE_0 := (BW6).size
  have E7 : Row4 w7 w6.heap.size (.int .u64 0) (.int .u64 0) (.int .u64 0) (.int .u64 0) := by rw [← hw7]; exact (by repeat (first | (with_reducible exact Row4.new _ _ _ _ _) | ((with_reducible refine Row4.new' _ ?_ _ _ _ _); (simp; done)) | (with_reducible refine Row4.alloc ?_ _) | (with_reducible refine Row4.drew ?_)))
  clear A6 B6 S6
  clear BW6
  clear hw7
  obtain ⟨Ac0, Ac1, Ac2, Ac3⟩ := A7.four
  obtain ⟨Af0, Af1, Af2, Af3⟩ := A7.free4
  go_wp2_with fail
  refine (K3.out _).mono ?_
  rintro e w8 ⟨rfl, hb⟩
  have hbX : Below w7.heap.size w7 w8 := btr (by repeat (first | (with_reducible exact Below.refl _ _) | (with_reducible refine bal ?_ _) | (with_reducible refine Below.drew ?_) | (with_reducible refine bdn ?_ _))) hb
  have DX8 : DR w8 s1 x := DR.keep hbX DX7
  have DY8 : DR w8 s2 y := DR.keep hbX DY7
  clear DX7 DY7
  clear hbX
  have BW8 : Below w.heap.size w w8 := btr (by repeat (first | (with_reducible exact BW7) | (with_reducible refine bal ?_ _) | (with_reducible refine Below.drew ?_) | (with_reducible refine bdn ?_ _))) hb
  have A8 : Row4 w8 w.heap.size (.int .u64 (lb 0 x)) (.int .u64 (lb 1 x)) (.int .u64 (lb 2 x)) (.int .u64 (lb 3 x)) := Row4.keep hb (by repeat (first | (with_reducible exact A7) | (with_reducible refine Row4.alloc ?_ _) | (with_reducible refine Row4.drew ?_)))
  have B8 : Row4 w8 (w.heap.size + 1) (.int .u64 (lb 0 y)) (.int .u64 (lb 1 y)) (.int .u64 (lb 2 y)) (.int .u64 (lb 3 y)) := Row4.keep hb (by repeat (first | (with_reducible exact B7) | (with_reducible refine Row4.alloc ?_ _) | (with_reducible refine Row4.drew ?_)))
  have S8 : Row4 w8 w4.heap.size (.int .u64 (lb 0 sa)) (.int .u64 (lb 1 sa)) (.int .u64 (lb 2 sa)) (.int .u64 (lb 3 sa)) := Row4.keep hb (by repeat (first | (with_reducible exact S7) | (with_reducible refine Row4.alloc ?_ _) | (with_reducible refine Row4.drew ?_)))
  have E8 : Row4 w8 w6.heap.size (.int .u64 0) (.int .u64 0) (.int .u64 0) (.int .u64 0) := Row4.keep hb (by repeat (first | (with_reducible exact E7) | (with_reducible refine Row4.alloc ?_ _) | (with_reducible refine Row4.drew ?_)))
  clear A7 B7 S7 E7
  clear BW7
  clear hb
  go_upto_region 5 with (fail)
  go_name_world w9 hw9
  have BW9 : Below w.heap.size w w9 := by rw [← hw9]; repeat (first | (with_reducible exact BW8) | (with_reducible refine bal ?_ _) | (with_reducible refine Below.drew ?_) | (with_reducible refine bdn ?_ _))
  have hbX : Below w8.heap.size w8 w9 := by rw [← hw9]; repeat (first | (with_reducible exact Below.refl _ _) | (with_reducible refine bal ?_ _) | (with_reducible refine Below.drew ?_) | (with_reducible refine bdn ?_ _))
  have DX9 : DR w9 s1 x := DR.keep hbX DX8
  have DY9 : DR w9 s2 y := DR.keep hbX DY8
  clear hbX DX8 DY8
  have A9 : Row4 w9 w.heap.size (.int .u64 (lb 0 x)) (.int .u64 (lb 1 x)) (.int .u64 (lb 2 x)) (.int .u64 (lb 3 x)) := by rw [← hw9]; exact (by repeat (first | (with_reducible exact A8) | (with_reducible refine Row4.alloc ?_ _) | (with_reducible refine Row4.drew ?_)))
  have B9 : Row4 w9 (w.heap.size + 1) (.int .u64 (lb 0 y)) (.int .u64 (lb 1 y)) (.int .u64 (lb 2 y)) (.int .u64 (lb 3 y)) := by rw [← hw9]; exact (by repeat (first | (with_reducible exact B8) | (with_reducible refine Row4.alloc ?_ _) | (with_reducible refine Row4.drew ?_)))
  have S9 : Row4 w9 w4.heap.size (.int .u64 (lb 0 sa)) (.int .u64 (lb 1 sa)) (.int .u64 (lb 2 sa)) (.int .u64 (lb 3 sa)) := by rw [← hw9]; exact (by repeat (first | (with_reducible exact S8) | (with_reducible refine Row4.alloc ?_ _) | (with_reducible refine Row4.drew ?_)))
  have E9 : Row4 w9 w6.heap.size (.int .u64 0) (.int .u64 0) (.int .u64 0) (.int .u64 0) := by rw [← hw9]; exact (by repeat (first | (with_reducible exact E8) | (with_reducible refine Row4.alloc ?_ _) | (with_reducible refine Row4.drew ?_)))
  have apR_A := A8.lt
  have apR_B := B8.lt
  have apR_S := S8.lt
  have apR_E := E8.lt
  have apR_0 := (BW8).size
  have R9 : Row4 w9 w8.heap.size (.int .u64 (lb 0 sm)) (.int .u64 (lb 1 sm)) (.int .u64 (lb 2 sm)) (.int .u64 (lb 3 sm)) := by rw [← hw9]; exact (by repeat (first | (with_reducible exact Row4.new _ _ _ _ _) | ((with_reducible refine Row4.new' _ ?_ _ _ _ _); (simp; done)) | (with_reducible refine Row4.alloc ?_ _) | (with_reducible refine Row4.drew ?_)))
  clear A8 B8 S8 E8
  clear BW8
  clear hw9
  have lt_A := A9.lt
  have lt_B := B9.lt
  have lt_S := S9.lt
  have lt_E := E9.lt
  have lt_R := R9.lt
  go_region_held3 (fun w' => w'.cell? ⟨w4.heap.size, 0, none⟩ = some (.int .u64 (lb 0 sa)) ∧ w'.cell? ⟨w4.heap.size, 1, none⟩ = some (.int .u64 (lb 1 sa)) ∧ w'.cell? ⟨w4.heap.size, 2, none⟩ = some (.int .u64 (lb 2 sa)) ∧ w'.cell? ⟨w4.heap.size, 3, none⟩ = some (.int .u64 (lb 3 sa)) ∧ w'.cell? ⟨w8.heap.size, 0, none⟩ = some (.int .u64 (lb 0 sm)) ∧ w'.cell? ⟨w8.heap.size, 1, none⟩ = some (.int .u64 (lb 1 sm)) ∧ w'.cell? ⟨w8.heap.size, 2, none⟩ = some (.int .u64 (lb 2 sm)) ∧ w'.cell? ⟨w8.heap.size, 3, none⟩ = some (.int .u64 (lb 3 sm)))
    ((refine both44 ?_ ?_; (focus (repeat (first | (with_reducible assumption) | (with_reducible refine Row4.alloc ?_ _) | (with_reducible refine Row4.drew ?_) | (with_reducible refine Row4.drewN ?_ _)))); (focus (repeat (first | (with_reducible assumption) | (with_reducible refine Row4.alloc ?_ _) | (with_reducible refine Row4.drew ?_) | (with_reducible refine Row4.drewN ?_ _)))); done))
    (first | (go_at_call 23; (with_reducible refine (radd (DR.keep (by repeat (first | (with_reducible exact Below.refl _ _) | (with_reducible refine bal ?_ _) | (with_reducible refine Below.drew ?_) | (with_reducible refine bdn ?_ _))) DX9) (DR.keep (by repeat (first | (with_reducible exact Below.refl _ _) | (with_reducible refine bal ?_ _) | (with_reducible refine Below.drew ?_) | (with_reducible refine bdn ?_ _))) DY9) L1.out L2.out).mono ?_); rintro e wf9_1 ⟨s3, rfl, hr9_1, hb9_1⟩; have hx9_1 : Below w9.heap.size w9 wf9_1 := btr (by repeat (first | (with_reducible exact Below.refl _ _) | (with_reducible refine bal ?_ _) | (with_reducible refine Below.drew ?_) | (with_reducible refine bdn ?_ _))) hb9_1; have Sf1 : Row4 wf9_1 w4.heap.size (.int .u64 (lb 0 sa)) (.int .u64 (lb 1 sa)) (.int .u64 (lb 2 sa)) (.int .u64 (lb 3 sa)) := Row4.keep hb9_1 (by repeat (first | (with_reducible assumption) | (with_reducible refine Row4.alloc ?_ _) | (with_reducible refine Row4.drew ?_) | (with_reducible refine Row4.drewN ?_ _))); have Rf1 : Row4 wf9_1 w8.heap.size (.int .u64 (lb 0 sm)) (.int .u64 (lb 1 sm)) (.int .u64 (lb 2 sm)) (.int .u64 (lb 3 sm)) := Row4.keep hb9_1 (by repeat (first | (with_reducible assumption) | (with_reducible refine Row4.alloc ?_ _) | (with_reducible refine Row4.drew ?_) | (with_reducible refine Row4.drewN ?_ _))); have DXf9_1 : DR wf9_1 s1 x := DR.keep hx9_1 DX9; have DYf9_1 : DR wf9_1 s2 y := DR.keep hx9_1 DY9) | (go_at_call 22; (with_reducible refine (T1.out (DR.keep (by repeat (first | (with_reducible exact Below.refl _ _) | (with_reducible refine bal ?_ _) | (with_reducible refine Below.drew ?_) | (with_reducible refine bdn ?_ _))) hr9_1)).mono ?_); rintro e wf9_2 ⟨rfl, hb9_2⟩; have hx9_2 : Below wf9_1.heap.size wf9_1 wf9_2 := btr (by repeat (first | (with_reducible exact Below.refl _ _) | (with_reducible refine bal ?_ _) | (with_reducible refine Below.drew ?_) | (with_reducible refine bdn ?_ _))) hb9_2; have Sf2 : Row4 wf9_2 w4.heap.size (.int .u64 (lb 0 sa)) (.int .u64 (lb 1 sa)) (.int .u64 (lb 2 sa)) (.int .u64 (lb 3 sa)) := Row4.keep hb9_2 (by repeat (first | (with_reducible assumption) | (with_reducible refine Row4.alloc ?_ _) | (with_reducible refine Row4.drew ?_) | (with_reducible refine Row4.drewN ?_ _))); have Rf2 : Row4 wf9_2 w8.heap.size (.int .u64 (lb 0 sm)) (.int .u64 (lb 1 sm)) (.int .u64 (lb 2 sm)) (.int .u64 (lb 3 sm)) := Row4.keep hb9_2 (by repeat (first | (with_reducible assumption) | (with_reducible refine Row4.alloc ?_ _) | (with_reducible refine Row4.drew ?_) | (with_reducible refine Row4.drewN ?_ _))); have DXf9_2 : DR wf9_2 s1 x := DR.keep hx9_2 DXf9_1; have DYf9_2 : DR wf9_2 s2 y := DR.keep hx9_2 DYf9_1; have DAf9_2 : DR wf9_2 s3 (x + y) := DR.keep hx9_2 hr9_1) | (go_at_call 25; (with_reducible refine (rsmall m HM.out _).mono ?_); rintro e wf9_3 ⟨s4, rfl, hr9_3, hb9_3⟩; have hx9_3 : Below wf9_2.heap.size wf9_2 wf9_3 := btr (by repeat (first | (with_reducible exact Below.refl _ _) | (with_reducible refine bal ?_ _) | (with_reducible refine Below.drew ?_) | (with_reducible refine bdn ?_ _))) hb9_3; have Sf3 : Row4 wf9_3 w4.heap.size (.int .u64 (lb 0 sa)) (.int .u64 (lb 1 sa)) (.int .u64 (lb 2 sa)) (.int .u64 (lb 3 sa)) := Row4.keep hb9_3 (by repeat (first | (with_reducible assumption) | (with_reducible refine Row4.alloc ?_ _) | (with_reducible refine Row4.drew ?_) | (with_reducible refine Row4.drewN ?_ _))); have Rf3 : Row4 wf9_3 w8.heap.size (.int .u64 (lb 0 sm)) (.int .u64 (lb 1 sm)) (.int .u64 (lb 2 sm)) (.int .u64 (lb 3 sm)) := Row4.keep hb9_3 (by repeat (first | (with_reducible assumption) | (with_reducible refine Row4.alloc ?_ _) | (with_reducible refine Row4.drew ?_) | (with_reducible refine Row4.drewN ?_ _))); have DXf9_3 : DR wf9_3 s1 x := DR.keep hx9_3 DXf9_2; have DYf9_3 : DR wf9_3 s2 y := DR.keep hx9_3 DYf9_2; have DAf9_3 : DR wf9_3 s3 (x + y) := DR.keep hx9_3 DAf9_2) | (go_at_call 24; (with_reducible refine (rmul (DR.keep (by repeat (first | (with_reducible exact Below.refl _ _) | (with_reducible refine bal ?_ _) | (with_reducible refine Below.drew ?_) | (with_reducible refine bdn ?_ _))) DXf9_3) (DR.keep (by repeat (first | (with_reducible exact Below.refl _ _) | (with_reducible refine bal ?_ _) | (with_reducible refine Below.drew ?_) | (with_reducible refine bdn ?_ _))) hr9_3) L1.out L3.out).mono ?_); rintro e wf9_4 ⟨s5, rfl, hr9_4, hb9_4⟩; have hx9_4 : Below wf9_3.heap.size wf9_3 wf9_4 := btr (by repeat (first | (with_reducible exact Below.refl _ _) | (with_reducible refine bal ?_ _) | (with_reducible refine Below.drew ?_) | (with_reducible refine bdn ?_ _))) hb9_4; have Sf4 : Row4 wf9_4 w4.heap.size (.int .u64 (lb 0 sa)) (.int .u64 (lb 1 sa)) (.int .u64 (lb 2 sa)) (.int .u64 (lb 3 sa)) := Row4.keep hb9_4 (by repeat (first | (with_reducible assumption) | (with_reducible refine Row4.alloc ?_ _) | (with_reducible refine Row4.drew ?_) | (with_reducible refine Row4.drewN ?_ _))); have Rf4 : Row4 wf9_4 w8.heap.size (.int .u64 (lb 0 sm)) (.int .u64 (lb 1 sm)) (.int .u64 (lb 2 sm)) (.int .u64 (lb 3 sm)) := Row4.keep hb9_4 (by repeat (first | (with_reducible assumption) | (with_reducible refine Row4.alloc ?_ _) | (with_reducible refine Row4.drew ?_) | (with_reducible refine Row4.drewN ?_ _))); have DXf9_4 : DR wf9_4 s1 x := DR.keep hx9_4 DXf9_3; have DYf9_4 : DR wf9_4 s2 y := DR.keep hx9_4 DYf9_3; have DAf9_4 : DR wf9_4 s3 (x + y) := DR.keep hx9_4 DAf9_3; have DMf9_4 : DR wf9_4 s4 m := DR.keep hx9_4 hr9_3) | (go_at_call 22; (with_reducible refine (T2.out (DR.keep (by repeat (first | (with_reducible exact Below.refl _ _) | (with_reducible refine bal ?_ _) | (with_reducible refine Below.drew ?_) | (with_reducible refine bdn ?_ _))) hr9_4)).mono ?_); rintro e wf9_5 ⟨rfl, hb9_5⟩; have hx9_5 : Below wf9_4.heap.size wf9_4 wf9_5 := btr (by repeat (first | (with_reducible exact Below.refl _ _) | (with_reducible refine bal ?_ _) | (with_reducible refine Below.drew ?_) | (with_reducible refine bdn ?_ _))) hb9_5; have Sf5 : Row4 wf9_5 w4.heap.size (.int .u64 (lb 0 sa)) (.int .u64 (lb 1 sa)) (.int .u64 (lb 2 sa)) (.int .u64 (lb 3 sa)) := Row4.keep hb9_5 (by repeat (first | (with_reducible assumption) | (with_reducible refine Row4.alloc ?_ _) | (with_reducible refine Row4.drew ?_) | (with_reducible refine Row4.drewN ?_ _))); have Rf5 : Row4 wf9_5 w8.heap.size (.int .u64 (lb 0 sm)) (.int .u64 (lb 1 sm)) (.int .u64 (lb 2 sm)) (.int .u64 (lb 3 sm)) := Row4.keep hb9_5 (by repeat (first | (with_reducible assumption) | (with_reducible refine Row4.alloc ?_ _) | (with_reducible refine Row4.drew ?_) | (with_reducible refine Row4.drewN ?_ _))); have DXf9_5 : DR wf9_5 s1 x := DR.keep hx9_5 DXf9_4; have DYf9_5 : DR wf9_5 s2 y := DR.keep hx9_5 DYf9_4; have DAf9_5 : DR wf9_5 s3 (x + y) := DR.keep hx9_5 DAf9_4; have DMf9_5 : DR wf9_5 s4 m := DR.keep hx9_5 DMf9_4; have DPf9_5 : DR wf9_5 s5 (x * m) := DR.keep hx9_5 hr9_4))
  have BW10 : Below w.heap.size w wf9_1 := btr (by repeat (first | (with_reducible exact BW9) | (with_reducible refine bal ?_ _) | (with_reducible refine Below.drew ?_) | (with_reducible refine bdn ?_ _))) hb9_1
  have A10 : Row4 wf9_1 w.heap.size (.int .u64 (lb 0 x)) (.int .u64 (lb 1 x)) (.int .u64 (lb 2 x)) (.int .u64 (lb 3 x)) := Row4.keep hb9_1 (by repeat (first | (with_reducible exact A9) | (with_reducible refine Row4.alloc ?_ _) | (with_reducible refine Row4.drew ?_)))
  have B10 : Row4 wf9_1 (w.heap.size + 1) (.int .u64 (lb 0 y)) (.int .u64 (lb 1 y)) (.int .u64 (lb 2 y)) (.int .u64 (lb 3 y)) := Row4.keep hb9_1 (by repeat (first | (with_reducible exact B9) | (with_reducible refine Row4.alloc ?_ _) | (with_reducible refine Row4.drew ?_)))
  have S10 : Row4 wf9_1 w4.heap.size (.int .u64 (lb 0 sa)) (.int .u64 (lb 1 sa)) (.int .u64 (lb 2 sa)) (.int .u64 (lb 3 sa)) := Row4.keep hb9_1 (by repeat (first | (with_reducible exact S9) | (with_reducible refine Row4.alloc ?_ _) | (with_reducible refine Row4.drew ?_)))
  have E10 : Row4 wf9_1 w6.heap.size (.int .u64 0) (.int .u64 0) (.int .u64 0) (.int .u64 0) := Row4.keep hb9_1 (by repeat (first | (with_reducible exact E9) | (with_reducible refine Row4.alloc ?_ _) | (with_reducible refine Row4.drew ?_)))
  have R10 : Row4 wf9_1 w8.heap.size (.int .u64 (lb 0 sm)) (.int .u64 (lb 1 sm)) (.int .u64 (lb 2 sm)) (.int .u64 (lb 3 sm)) := Row4.keep hb9_1 (by repeat (first | (with_reducible exact R9) | (with_reducible refine Row4.alloc ?_ _) | (with_reducible refine Row4.drew ?_)))
  clear A9 B9 S9 E9 R9 Sf1 Rf1 BW9
  have BW11 : Below w.heap.size w wf9_2 := btr (by repeat (first | (with_reducible exact BW10) | (with_reducible refine bal ?_ _) | (with_reducible refine Below.drew ?_) | (with_reducible refine bdn ?_ _))) hb9_2
  have A11 : Row4 wf9_2 w.heap.size (.int .u64 (lb 0 x)) (.int .u64 (lb 1 x)) (.int .u64 (lb 2 x)) (.int .u64 (lb 3 x)) := Row4.keep hb9_2 (by repeat (first | (with_reducible exact A10) | (with_reducible refine Row4.alloc ?_ _) | (with_reducible refine Row4.drew ?_)))
  have B11 : Row4 wf9_2 (w.heap.size + 1) (.int .u64 (lb 0 y)) (.int .u64 (lb 1 y)) (.int .u64 (lb 2 y)) (.int .u64 (lb 3 y)) := Row4.keep hb9_2 (by repeat (first | (with_reducible exact B10) | (with_reducible refine Row4.alloc ?_ _) | (with_reducible refine Row4.drew ?_)))
  have S11 : Row4 wf9_2 w4.heap.size (.int .u64 (lb 0 sa)) (.int .u64 (lb 1 sa)) (.int .u64 (lb 2 sa)) (.int .u64 (lb 3 sa)) := Row4.keep hb9_2 (by repeat (first | (with_reducible exact S10) | (with_reducible refine Row4.alloc ?_ _) | (with_reducible refine Row4.drew ?_)))
  have E11 : Row4 wf9_2 w6.heap.size (.int .u64 0) (.int .u64 0) (.int .u64 0) (.int .u64 0) := Row4.keep hb9_2 (by repeat (first | (with_reducible exact E10) | (with_reducible refine Row4.alloc ?_ _) | (with_reducible refine Row4.drew ?_)))
  have R11 : Row4 wf9_2 w8.heap.size (.int .u64 (lb 0 sm)) (.int .u64 (lb 1 sm)) (.int .u64 (lb 2 sm)) (.int .u64 (lb 3 sm)) := Row4.keep hb9_2 (by repeat (first | (with_reducible exact R10) | (with_reducible refine Row4.alloc ?_ _) | (with_reducible refine Row4.drew ?_)))
  clear A10 B10 S10 E10 R10 Sf2 Rf2 BW10
  have BW12 : Below w.heap.size w wf9_3 := btr (by repeat (first | (with_reducible exact BW11) | (with_reducible refine bal ?_ _) | (with_reducible refine Below.drew ?_) | (with_reducible refine bdn ?_ _))) hb9_3
  have A12 : Row4 wf9_3 w.heap.size (.int .u64 (lb 0 x)) (.int .u64 (lb 1 x)) (.int .u64 (lb 2 x)) (.int .u64 (lb 3 x)) := Row4.keep hb9_3 (by repeat (first | (with_reducible exact A11) | (with_reducible refine Row4.alloc ?_ _) | (with_reducible refine Row4.drew ?_)))
  have B12 : Row4 wf9_3 (w.heap.size + 1) (.int .u64 (lb 0 y)) (.int .u64 (lb 1 y)) (.int .u64 (lb 2 y)) (.int .u64 (lb 3 y)) := Row4.keep hb9_3 (by repeat (first | (with_reducible exact B11) | (with_reducible refine Row4.alloc ?_ _) | (with_reducible refine Row4.drew ?_)))
  have S12 : Row4 wf9_3 w4.heap.size (.int .u64 (lb 0 sa)) (.int .u64 (lb 1 sa)) (.int .u64 (lb 2 sa)) (.int .u64 (lb 3 sa)) := Row4.keep hb9_3 (by repeat (first | (with_reducible exact S11) | (with_reducible refine Row4.alloc ?_ _) | (with_reducible refine Row4.drew ?_)))
  have E12 : Row4 wf9_3 w6.heap.size (.int .u64 0) (.int .u64 0) (.int .u64 0) (.int .u64 0) := Row4.keep hb9_3 (by repeat (first | (with_reducible exact E11) | (with_reducible refine Row4.alloc ?_ _) | (with_reducible refine Row4.drew ?_)))
  have R12 : Row4 wf9_3 w8.heap.size (.int .u64 (lb 0 sm)) (.int .u64 (lb 1 sm)) (.int .u64 (lb 2 sm)) (.int .u64 (lb 3 sm)) := Row4.keep hb9_3 (by repeat (first | (with_reducible exact R11) | (with_reducible refine Row4.alloc ?_ _) | (with_reducible refine Row4.drew ?_)))
  clear A11 B11 S11 E11 R11 Sf3 Rf3 BW11
  have BW13 : Below w.heap.size w wf9_4 := btr (by repeat (first | (with_reducible exact BW12) | (with_reducible refine bal ?_ _) | (with_reducible refine Below.drew ?_) | (with_reducible refine bdn ?_ _))) hb9_4
  have A13 : Row4 wf9_4 w.heap.size (.int .u64 (lb 0 x)) (.int .u64 (lb 1 x)) (.int .u64 (lb 2 x)) (.int .u64 (lb 3 x)) := Row4.keep hb9_4 (by repeat (first | (with_reducible exact A12) | (with_reducible refine Row4.alloc ?_ _) | (with_reducible refine Row4.drew ?_)))
  have B13 : Row4 wf9_4 (w.heap.size + 1) (.int .u64 (lb 0 y)) (.int .u64 (lb 1 y)) (.int .u64 (lb 2 y)) (.int .u64 (lb 3 y)) := Row4.keep hb9_4 (by repeat (first | (with_reducible exact B12) | (with_reducible refine Row4.alloc ?_ _) | (with_reducible refine Row4.drew ?_)))
  have S13 : Row4 wf9_4 w4.heap.size (.int .u64 (lb 0 sa)) (.int .u64 (lb 1 sa)) (.int .u64 (lb 2 sa)) (.int .u64 (lb 3 sa)) := Row4.keep hb9_4 (by repeat (first | (with_reducible exact S12) | (with_reducible refine Row4.alloc ?_ _) | (with_reducible refine Row4.drew ?_)))
  have E13 : Row4 wf9_4 w6.heap.size (.int .u64 0) (.int .u64 0) (.int .u64 0) (.int .u64 0) := Row4.keep hb9_4 (by repeat (first | (with_reducible exact E12) | (with_reducible refine Row4.alloc ?_ _) | (with_reducible refine Row4.drew ?_)))
  have R13 : Row4 wf9_4 w8.heap.size (.int .u64 (lb 0 sm)) (.int .u64 (lb 1 sm)) (.int .u64 (lb 2 sm)) (.int .u64 (lb 3 sm)) := Row4.keep hb9_4 (by repeat (first | (with_reducible exact R12) | (with_reducible refine Row4.alloc ?_ _) | (with_reducible refine Row4.drew ?_)))
  clear A12 B12 S12 E12 R12 Sf4 Rf4 BW12
  have BW14 : Below w.heap.size w wf9_5 := btr (by repeat (first | (with_reducible exact BW13) | (with_reducible refine bal ?_ _) | (with_reducible refine Below.drew ?_) | (with_reducible refine bdn ?_ _))) hb9_5
  have A14 : Row4 wf9_5 w.heap.size (.int .u64 (lb 0 x)) (.int .u64 (lb 1 x)) (.int .u64 (lb 2 x)) (.int .u64 (lb 3 x)) := Row4.keep hb9_5 (by repeat (first | (with_reducible exact A13) | (with_reducible refine Row4.alloc ?_ _) | (with_reducible refine Row4.drew ?_)))
  have B14 : Row4 wf9_5 (w.heap.size + 1) (.int .u64 (lb 0 y)) (.int .u64 (lb 1 y)) (.int .u64 (lb 2 y)) (.int .u64 (lb 3 y)) := Row4.keep hb9_5 (by repeat (first | (with_reducible exact B13) | (with_reducible refine Row4.alloc ?_ _) | (with_reducible refine Row4.drew ?_)))
  have S14 : Row4 wf9_5 w4.heap.size (.int .u64 (lb 0 sa)) (.int .u64 (lb 1 sa)) (.int .u64 (lb 2 sa)) (.int .u64 (lb 3 sa)) := Row4.keep hb9_5 (by repeat (first | (with_reducible exact S13) | (with_reducible refine Row4.alloc ?_ _) | (with_reducible refine Row4.drew ?_)))
  have E14 : Row4 wf9_5 w6.heap.size (.int .u64 0) (.int .u64 0) (.int .u64 0) (.int .u64 0) := Row4.keep hb9_5 (by repeat (first | (with_reducible exact E13) | (with_reducible refine Row4.alloc ?_ _) | (with_reducible refine Row4.drew ?_)))
  have R14 : Row4 wf9_5 w8.heap.size (.int .u64 (lb 0 sm)) (.int .u64 (lb 1 sm)) (.int .u64 (lb 2 sm)) (.int .u64 (lb 3 sm)) := Row4.keep hb9_5 (by repeat (first | (with_reducible exact R13) | (with_reducible refine Row4.alloc ?_ _) | (with_reducible refine Row4.drew ?_)))
  clear A13 B13 S13 E13 R13 Sf5 Rf5 BW13
  have DX14 : DR wf9_5 s1 x := DXf9_5
  have DY14 : DR wf9_5 s2 y := DYf9_5
  have DA14 : DR wf9_5 s3 (x + y) := DAf9_5
  have DM14 : DR wf9_5 s4 m := DMf9_5
  have DP14 : DR wf9_5 s5 (x * m) := DPf9_5
  clear hb9_1 hx9_1
  clear hb9_2 hx9_2
  clear hb9_3 hx9_3
  clear hb9_4 hx9_4
  clear hb9_5 hx9_5
  try clear DXf9_1
  try clear DYf9_1
  try clear DAf9_1
  try clear DMf9_1
  try clear DPf9_1
  try clear DXf9_2
  try clear DYf9_2
  try clear DAf9_2
  try clear DMf9_2
  try clear DPf9_2
  try clear DXf9_3
  try clear DYf9_3
  try clear DAf9_3
  try clear DMf9_3
  try clear DPf9_3
  try clear DXf9_4
  try clear DYf9_4
  try clear DAf9_4
  try clear DMf9_4
  try clear DPf9_4
  try clear DXf9_5
  try clear DYf9_5
  try clear DAf9_5
  try clear DMf9_5
  try clear DPf9_5
  try clear hr9_1
  try clear hr9_3
  try clear hr9_4
  try clear DX9
  try clear DY9
  have hcm := fun (W : World) (hW : Below wf9_5.heap.size wf9_5 W) => rcmp (w := W) (DR.keep hW DX14) (DR.keep hW DY14) L1.out
  rw [HCV.out] at hcm
  have HCM := Lib.hid hcm; clear hcm
  go_wp2_with fail
  refine (HCM.out _ (by repeat (first | (with_reducible exact Below.refl _ _) | (with_reducible refine bal ?_ _) | (with_reducible refine Below.drew ?_) | (with_reducible refine bdn ?_ _)))).mono ?_
  rintro e w15 ⟨rfl, hb⟩
  have hbX : Below wf9_5.heap.size wf9_5 w15 := btr (by repeat (first | (with_reducible exact Below.refl _ _) | (with_reducible refine bal ?_ _) | (with_reducible refine Below.drew ?_) | (with_reducible refine bdn ?_ _))) hb
  have DX15 : DR w15 s1 x := DR.keep hbX DX14
  have DY15 : DR w15 s2 y := DR.keep hbX DY14
  have DA15 : DR w15 s3 (x + y) := DR.keep hbX DA14
  have DM15 : DR w15 s4 m := DR.keep hbX DM14
  have DP15 : DR w15 s5 (x * m) := DR.keep hbX DP14
  clear DX14 DY14 DA14 DM14 DP14
  clear hbX
  have BW15 : Below w.heap.size w w15 := btr (by repeat (first | (with_reducible exact BW14) | (with_reducible refine bal ?_ _) | (with_reducible refine Below.drew ?_) | (with_reducible refine bdn ?_ _))) hb
  have A15 : Row4 w15 w.heap.size (.int .u64 (lb 0 x)) (.int .u64 (lb 1 x)) (.int .u64 (lb 2 x)) (.int .u64 (lb 3 x)) := Row4.keep hb (by repeat (first | (with_reducible exact A14) | (with_reducible refine Row4.alloc ?_ _) | (with_reducible refine Row4.drew ?_)))
  have B15 : Row4 w15 (w.heap.size + 1) (.int .u64 (lb 0 y)) (.int .u64 (lb 1 y)) (.int .u64 (lb 2 y)) (.int .u64 (lb 3 y)) := Row4.keep hb (by repeat (first | (with_reducible exact B14) | (with_reducible refine Row4.alloc ?_ _) | (with_reducible refine Row4.drew ?_)))
  have S15 : Row4 w15 w4.heap.size (.int .u64 (lb 0 sa)) (.int .u64 (lb 1 sa)) (.int .u64 (lb 2 sa)) (.int .u64 (lb 3 sa)) := Row4.keep hb (by repeat (first | (with_reducible exact S14) | (with_reducible refine Row4.alloc ?_ _) | (with_reducible refine Row4.drew ?_)))
  have E15 : Row4 w15 w6.heap.size (.int .u64 0) (.int .u64 0) (.int .u64 0) (.int .u64 0) := Row4.keep hb (by repeat (first | (with_reducible exact E14) | (with_reducible refine Row4.alloc ?_ _) | (with_reducible refine Row4.drew ?_)))
  have R15 : Row4 w15 w8.heap.size (.int .u64 (lb 0 sm)) (.int .u64 (lb 1 sm)) (.int .u64 (lb 2 sm)) (.int .u64 (lb 3 sm)) := Row4.keep hb (by repeat (first | (with_reducible exact R14) | (with_reducible refine Row4.alloc ?_ _) | (with_reducible refine Row4.drew ?_)))
  clear A14 B14 S14 E14 R14
  clear BW14
  clear hb
  clear HCM
  obtain ⟨Ec0, Ec1, Ec2, Ec3⟩ := E15.four
  obtain ⟨Ef0, Ef1, Ef2, Ef3⟩ := E15.free4
  have hz := HZ.out
  go_wp2_with fail
  refine (told_true _ (tab_on HT.out (by repeat (first | (with_reducible exact BW15) | (with_reducible refine bal ?_ _) | (with_reducible refine Below.drew ?_) | (with_reducible refine bdn ?_ _))))).mono ?_
  rintro e w16 ⟨rfl, hb⟩
  have hbX : Below w15.heap.size w15 w16 := btr (by repeat (first | (with_reducible exact Below.refl _ _) | (with_reducible refine bal ?_ _) | (with_reducible refine Below.drew ?_) | (with_reducible refine bdn ?_ _))) hb
  have DX16 : DR w16 s1 x := DR.keep hbX DX15
  have DY16 : DR w16 s2 y := DR.keep hbX DY15
  have DA16 : DR w16 s3 (x + y) := DR.keep hbX DA15
  have DM16 : DR w16 s4 m := DR.keep hbX DM15
  have DP16 : DR w16 s5 (x * m) := DR.keep hbX DP15
  clear DX15 DY15 DA15 DM15 DP15
  clear hbX
  have BW16 : Below w.heap.size w w16 := btr (by repeat (first | (with_reducible exact BW15) | (with_reducible refine bal ?_ _) | (with_reducible refine Below.drew ?_) | (with_reducible refine bdn ?_ _))) hb
  have A16 : Row4 w16 w.heap.size (.int .u64 (lb 0 x)) (.int .u64 (lb 1 x)) (.int .u64 (lb 2 x)) (.int .u64 (lb 3 x)) := Row4.keep hb (by repeat (first | (with_reducible exact A15) | (with_reducible refine Row4.alloc ?_ _) | (with_reducible refine Row4.drew ?_)))
  have B16 : Row4 w16 (w.heap.size + 1) (.int .u64 (lb 0 y)) (.int .u64 (lb 1 y)) (.int .u64 (lb 2 y)) (.int .u64 (lb 3 y)) := Row4.keep hb (by repeat (first | (with_reducible exact B15) | (with_reducible refine Row4.alloc ?_ _) | (with_reducible refine Row4.drew ?_)))
  have S16 : Row4 w16 w4.heap.size (.int .u64 (lb 0 sa)) (.int .u64 (lb 1 sa)) (.int .u64 (lb 2 sa)) (.int .u64 (lb 3 sa)) := Row4.keep hb (by repeat (first | (with_reducible exact S15) | (with_reducible refine Row4.alloc ?_ _) | (with_reducible refine Row4.drew ?_)))
  have E16 : Row4 w16 w6.heap.size (.int .u64 0) (.int .u64 0) (.int .u64 0) (.int .u64 0) := Row4.keep hb (by repeat (first | (with_reducible exact E15) | (with_reducible refine Row4.alloc ?_ _) | (with_reducible refine Row4.drew ?_)))
  have R16 : Row4 w16 w8.heap.size (.int .u64 (lb 0 sm)) (.int .u64 (lb 1 sm)) (.int .u64 (lb 2 sm)) (.int .u64 (lb 3 sm)) := Row4.keep hb (by repeat (first | (with_reducible exact R15) | (with_reducible refine Row4.alloc ?_ _) | (with_reducible refine Row4.drew ?_)))
  clear A15 B15 S15 E15 R15
  clear BW15
  clear hb
  obtain ⟨Ac0, Ac1, Ac2, Ac3⟩ := A16.four
  obtain ⟨Af0, Af1, Af2, Af3⟩ := A16.free4
  obtain ⟨Bc0, Bc1, Bc2, Bc3⟩ := B16.four
  obtain ⟨Bf0, Bf1, Bf2, Bf3⟩ := B16.free4
  go_wp2_with fail
  refine (KC.out _).mono ?_
  rintro e w17 ⟨rfl, hb⟩
  have hbX : Below w16.heap.size w16 w17 := btr (by repeat (first | (with_reducible exact Below.refl _ _) | (with_reducible refine bal ?_ _) | (with_reducible refine Below.drew ?_) | (with_reducible refine bdn ?_ _))) hb
  have DX17 : DR w17 s1 x := DR.keep hbX DX16
  have DY17 : DR w17 s2 y := DR.keep hbX DY16
  have DA17 : DR w17 s3 (x + y) := DR.keep hbX DA16
  have DM17 : DR w17 s4 m := DR.keep hbX DM16
  have DP17 : DR w17 s5 (x * m) := DR.keep hbX DP16
  clear DX16 DY16 DA16 DM16 DP16
  clear hbX
  have BW17 : Below w.heap.size w w17 := btr (by repeat (first | (with_reducible exact BW16) | (with_reducible refine bal ?_ _) | (with_reducible refine Below.drew ?_) | (with_reducible refine bdn ?_ _))) hb
  have A17 : Row4 w17 w.heap.size (.int .u64 (lb 0 x)) (.int .u64 (lb 1 x)) (.int .u64 (lb 2 x)) (.int .u64 (lb 3 x)) := Row4.keep hb (by repeat (first | (with_reducible exact A16) | (with_reducible refine Row4.alloc ?_ _) | (with_reducible refine Row4.drew ?_)))
  have B17 : Row4 w17 (w.heap.size + 1) (.int .u64 (lb 0 y)) (.int .u64 (lb 1 y)) (.int .u64 (lb 2 y)) (.int .u64 (lb 3 y)) := Row4.keep hb (by repeat (first | (with_reducible exact B16) | (with_reducible refine Row4.alloc ?_ _) | (with_reducible refine Row4.drew ?_)))
  have S17 : Row4 w17 w4.heap.size (.int .u64 (lb 0 sa)) (.int .u64 (lb 1 sa)) (.int .u64 (lb 2 sa)) (.int .u64 (lb 3 sa)) := Row4.keep hb (by repeat (first | (with_reducible exact S16) | (with_reducible refine Row4.alloc ?_ _) | (with_reducible refine Row4.drew ?_)))
  have E17 : Row4 w17 w6.heap.size (.int .u64 0) (.int .u64 0) (.int .u64 0) (.int .u64 0) := Row4.keep hb (by repeat (first | (with_reducible exact E16) | (with_reducible refine Row4.alloc ?_ _) | (with_reducible refine Row4.drew ?_)))
  have R17 : Row4 w17 w8.heap.size (.int .u64 (lb 0 sm)) (.int .u64 (lb 1 sm)) (.int .u64 (lb 2 sm)) (.int .u64 (lb 3 sm)) := Row4.keep hb (by repeat (first | (with_reducible exact R16) | (with_reducible refine Row4.alloc ?_ _) | (with_reducible refine Row4.drew ?_)))
  clear A16 B16 S16 E16 R16
  clear BW16
  clear hb
  have hcm := fun (W : World) (hW : Below w17.heap.size w17 W) => rcmp (w := W) (DR.keep hW DX17) (DR.keep hW DY17) L1.out
  rw [HCV.out] at hcm
  have HCM := Lib.hid hcm; clear hcm
  go_wp2_with fail
  refine (HCM.out _ (by repeat (first | (with_reducible exact Below.refl _ _) | (with_reducible refine bal ?_ _) | (with_reducible refine Below.drew ?_) | (with_reducible refine bdn ?_ _)))).mono ?_
  rintro e w18 ⟨rfl, hb⟩
  have hbX : Below w17.heap.size w17 w18 := btr (by repeat (first | (with_reducible exact Below.refl _ _) | (with_reducible refine bal ?_ _) | (with_reducible refine Below.drew ?_) | (with_reducible refine bdn ?_ _))) hb
  have DX18 : DR w18 s1 x := DR.keep hbX DX17
  have DY18 : DR w18 s2 y := DR.keep hbX DY17
  have DA18 : DR w18 s3 (x + y) := DR.keep hbX DA17
  have DM18 : DR w18 s4 m := DR.keep hbX DM17
  have DP18 : DR w18 s5 (x * m) := DR.keep hbX DP17
  clear DX17 DY17 DA17 DM17 DP17
  clear hbX
  have BW18 : Below w.heap.size w w18 := btr (by repeat (first | (with_reducible exact BW17) | (with_reducible refine bal ?_ _) | (with_reducible refine Below.drew ?_) | (with_reducible refine bdn ?_ _))) hb
  have A18 : Row4 w18 w.heap.size (.int .u64 (lb 0 x)) (.int .u64 (lb 1 x)) (.int .u64 (lb 2 x)) (.int .u64 (lb 3 x)) := Row4.keep hb (by repeat (first | (with_reducible exact A17) | (with_reducible refine Row4.alloc ?_ _) | (with_reducible refine Row4.drew ?_)))
  have B18 : Row4 w18 (w.heap.size + 1) (.int .u64 (lb 0 y)) (.int .u64 (lb 1 y)) (.int .u64 (lb 2 y)) (.int .u64 (lb 3 y)) := Row4.keep hb (by repeat (first | (with_reducible exact B17) | (with_reducible refine Row4.alloc ?_ _) | (with_reducible refine Row4.drew ?_)))
  have S18 : Row4 w18 w4.heap.size (.int .u64 (lb 0 sa)) (.int .u64 (lb 1 sa)) (.int .u64 (lb 2 sa)) (.int .u64 (lb 3 sa)) := Row4.keep hb (by repeat (first | (with_reducible exact S17) | (with_reducible refine Row4.alloc ?_ _) | (with_reducible refine Row4.drew ?_)))
  have E18 : Row4 w18 w6.heap.size (.int .u64 0) (.int .u64 0) (.int .u64 0) (.int .u64 0) := Row4.keep hb (by repeat (first | (with_reducible exact E17) | (with_reducible refine Row4.alloc ?_ _) | (with_reducible refine Row4.drew ?_)))
  have R18 : Row4 w18 w8.heap.size (.int .u64 (lb 0 sm)) (.int .u64 (lb 1 sm)) (.int .u64 (lb 2 sm)) (.int .u64 (lb 3 sm)) := Row4.keep hb (by repeat (first | (with_reducible exact R17) | (with_reducible refine Row4.alloc ?_ _) | (with_reducible refine Row4.drew ?_)))
  clear A17 B17 S17 E17 R17
  clear BW17
  clear hb
  clear HCM
  obtain ⟨Ac0, Ac1, Ac2, Ac3⟩ := A18.four
  obtain ⟨Af0, Af1, Af2, Af3⟩ := A18.free4
  go_wp2_with fail
  refine (KD.out _).mono ?_
  rintro e w19 ⟨rfl, hb⟩
  have hbX : Below w18.heap.size w18 w19 := btr (by repeat (first | (with_reducible exact Below.refl _ _) | (with_reducible refine bal ?_ _) | (with_reducible refine Below.drew ?_) | (with_reducible refine bdn ?_ _))) hb
  have DX19 : DR w19 s1 x := DR.keep hbX DX18
  have DY19 : DR w19 s2 y := DR.keep hbX DY18
  have DA19 : DR w19 s3 (x + y) := DR.keep hbX DA18
  have DM19 : DR w19 s4 m := DR.keep hbX DM18
  have DP19 : DR w19 s5 (x * m) := DR.keep hbX DP18
  clear DX18 DY18 DA18 DM18 DP18
  clear hbX
  have BW19 : Below w.heap.size w w19 := btr (by repeat (first | (with_reducible exact BW18) | (with_reducible refine bal ?_ _) | (with_reducible refine Below.drew ?_) | (with_reducible refine bdn ?_ _))) hb
  have A19 : Row4 w19 w.heap.size (.int .u64 (lb 0 x)) (.int .u64 (lb 1 x)) (.int .u64 (lb 2 x)) (.int .u64 (lb 3 x)) := Row4.keep hb (by repeat (first | (with_reducible exact A18) | (with_reducible refine Row4.alloc ?_ _) | (with_reducible refine Row4.drew ?_)))
  have B19 : Row4 w19 (w.heap.size + 1) (.int .u64 (lb 0 y)) (.int .u64 (lb 1 y)) (.int .u64 (lb 2 y)) (.int .u64 (lb 3 y)) := Row4.keep hb (by repeat (first | (with_reducible exact B18) | (with_reducible refine Row4.alloc ?_ _) | (with_reducible refine Row4.drew ?_)))
  have S19 : Row4 w19 w4.heap.size (.int .u64 (lb 0 sa)) (.int .u64 (lb 1 sa)) (.int .u64 (lb 2 sa)) (.int .u64 (lb 3 sa)) := Row4.keep hb (by repeat (first | (with_reducible exact S18) | (with_reducible refine Row4.alloc ?_ _) | (with_reducible refine Row4.drew ?_)))
  have E19 : Row4 w19 w6.heap.size (.int .u64 0) (.int .u64 0) (.int .u64 0) (.int .u64 0) := Row4.keep hb (by repeat (first | (with_reducible exact E18) | (with_reducible refine Row4.alloc ?_ _) | (with_reducible refine Row4.drew ?_)))
  have R19 : Row4 w19 w8.heap.size (.int .u64 (lb 0 sm)) (.int .u64 (lb 1 sm)) (.int .u64 (lb 2 sm)) (.int .u64 (lb 3 sm)) := Row4.keep hb (by repeat (first | (with_reducible exact R18) | (with_reducible refine Row4.alloc ?_ _) | (with_reducible refine Row4.drew ?_)))
  clear A18 B18 S18 E18 R18
  clear BW18
  clear hb
  go_wp2
  go_ret
  exact ⟨rfl, BW19⟩

set_option maxHeartbeats 4000000 in
set_option maxRecDepth 100000 in
theorem sums_geq (x y m : Nat) (hx : x < 2 ^ 256) (hy : y < 2 ^ 256) (hm : m < 18446744073709551616) (hxy : y ≤ x) (w : World) (hT : Tab w) :
    Calls Tryd.prog 3 #[N4 x, N4 y, .int .u64 m] w fun e w' => e = .returned (.bool true) ∧ Below w.heap.size w w' := by
  have L1 := Lib.hid (len_of 8 (show x < 2 ^ (32 * 8) from hx) (by decide))
  have L2 := Lib.hid (len_of 8 (show y < 2 ^ (32 * 8) from hy) (by decide))
  have L3 := Lib.hid (len_of 2 (show m < 2 ^ (32 * 2) from hm) (by decide))
  have HX := Lib.hid hx; have HY := Lib.hid hy; have HM := Lib.hid hm; have HT := Lib.hid hT; have HXY := Lib.hid hxy; clear hx hy hm hT hxy
  have K1 : Hid (∀ W, Calls Tryd.prog 19 #[N4 x, N4 y] W fun e w' => e = .returned (.tuple #[N4 (nz (x + y)), .bool (decide (x + y < 2 ^ 256))]) ∧ Below W.heap.size W w') := fun W => nadd x y HX.out HY.out W
  have K3 : Hid (∀ W, Calls Tryd.prog 21 #[N4 x, .int .u64 m] W fun e w' => e = .returned (.tuple #[N4 (nz (x * m)), .bool (decide (x * m < 2 ^ 256))]) ∧ Below W.heap.size W w') := fun W => nmul x m HX.out HM.out W
  obtain ⟨p, hp⟩ : ∃ p, p = decide (x + y < 2 ^ 256) := ⟨_, rfl⟩
  obtain ⟨o, ho⟩ : ∃ o, o = decide (x * m < 2 ^ 256) := ⟨_, rfl⟩
  obtain ⟨sa, hsa⟩ : ∃ sa, sa = nz (x + y) := ⟨_, rfl⟩
  obtain ⟨sm, hsm⟩ : ∃ sm, sm = nz (x * m) := ⟨_, rfl⟩
  rw [← hp, ← hsa] at K1
  rw [← ho, ← hsm] at K3
  have T1 : Hid (∀ {s : Value} {W : World}, DR W s (x + y) → Calls Tryd.prog 22 #[N4 sa, .bool p, s] W fun e w' => e = .returned (.bool true) ∧ Below W.heap.size W w') := fun h => by rw [hsa, hp]; exact two_any h
  have T2 : Hid (∀ {s : Value} {W : World}, DR W s (x * m) → Calls Tryd.prog 22 #[N4 sm, .bool o, s] W fun e w' => e = .returned (.bool true) ∧ Below W.heap.size W w') := fun h => by rw [hsm, ho]; exact two_any h
  clear hp ho hsa hsm
  have KC : Hid (∀ W, Calls Tryd.prog 29 #[N4 x, N4 y] W fun e w' => e = .returned (.int .i64 (rcv x y)) ∧ Below W.heap.size W w') := fun W => by have := cmp_any x y HX.out HY.out W; rw [cmp_same] at this; exact this
  have KD : Hid (∀ W, Calls Tryd.prog 29 #[N4 x, N4 x] W fun e w' => e = .returned (.int .i64 0) ∧ Below W.heap.size W w') := fun W => by have := cmp_any x x HX.out HX.out W; rw [cmp_same, rcv_eq] at this; exact this
  obtain ⟨cv, hcv⟩ : ∃ cv, cv = rcv x y := ⟨_, rfl⟩
  have hc0 : 0 ≤ cv := by rw [hcv]; unfold rcv; have := HXY.out; rw [if_neg (by omega)]; split <;> omega
  rw [← hcv] at KC
  have HCV := Lib.hid hcv; clear hcv
  have KS : Hid (∀ W, Calls Tryd.prog 20 #[N4 x, N4 y] W fun e w' => e = .returned (.tuple #[N4 (x - y), .bool true]) ∧ Below W.heap.size W w') := fun W => sub_ok x y HX.out HY.out HXY.out W
  obtain ⟨sd, hsd⟩ : ∃ sd, sd = x - y := ⟨_, rfl⟩
  rw [← hsd] at KS
  have T3 : Hid (∀ {s : Value} {W : World}, DR W s (x - y) → Calls Tryd.prog 22 #[N4 sd, .bool true, s] W fun e w' => e = .returned (.bool true) ∧ Below W.heap.size W w') := fun h => by rw [hsd]; exact two_yes h (by have := HX.out; omega)
  clear hsd
  go_enter Tryd.func3, Tryd.ntmps3
  go_upto_region 1 with (fail)
  go_name_world w1 hw1
  have BW1 : Below w.heap.size w w1 := by rw [← hw1]; repeat (first | (with_reducible exact Below.refl _ _) | (with_reducible refine bal ?_ _) | (with_reducible refine Below.drew ?_) | (with_reducible refine bdn ?_ _))
  have A1 : Row4 w1 w.heap.size (.int .u64 (lb 0 x)) (.int .u64 (lb 1 x)) (.int .u64 (lb 2 x)) (.int .u64 (lb 3 x)) := by rw [← hw1]; exact (by repeat (first | (with_reducible exact Row4.new _ _ _ _ _) | ((with_reducible refine Row4.new' _ ?_ _ _ _ _); (simp; done)) | (with_reducible refine Row4.alloc ?_ _) | (with_reducible refine Row4.drew ?_)))
  have B1 : Row4 w1 (w.heap.size + 1) (.int .u64 (lb 0 y)) (.int .u64 (lb 1 y)) (.int .u64 (lb 2 y)) (.int .u64 (lb 3 y)) := by rw [← hw1]; exact (by repeat (first | (with_reducible exact Row4.new _ _ _ _ _) | ((with_reducible refine Row4.new' _ ?_ _ _ _ _); (simp; done)) | (with_reducible refine Row4.alloc ?_ _) | (with_reducible refine Row4.drew ?_)))
  clear hw1
  have lt_A := A1.lt
  have lt_B := B1.lt
  go_region_held3 (fun w' => w'.cell? ⟨w.heap.size, 0, none⟩ = some (.int .u64 (lb 0 x)) ∧ w'.cell? ⟨w.heap.size, 1, none⟩ = some (.int .u64 (lb 1 x)) ∧ w'.cell? ⟨w.heap.size, 2, none⟩ = some (.int .u64 (lb 2 x)) ∧ w'.cell? ⟨w.heap.size, 3, none⟩ = some (.int .u64 (lb 3 x)) ∧ w'.cell? ⟨(w.heap.size + 1), 0, none⟩ = some (.int .u64 (lb 0 y)) ∧ w'.cell? ⟨(w.heap.size + 1), 1, none⟩ = some (.int .u64 (lb 1 y)) ∧ w'.cell? ⟨(w.heap.size + 1), 2, none⟩ = some (.int .u64 (lb 2 y)) ∧ w'.cell? ⟨(w.heap.size + 1), 3, none⟩ = some (.int .u64 (lb 3 y)))
    ((refine both44 ?_ ?_; (focus (repeat (first | (with_reducible assumption) | (with_reducible refine Row4.alloc ?_ _) | (with_reducible refine Row4.drew ?_) | (with_reducible refine Row4.drewN ?_ _)))); (focus (repeat (first | (with_reducible assumption) | (with_reducible refine Row4.alloc ?_ _) | (with_reducible refine Row4.drew ?_) | (with_reducible refine Row4.drewN ?_ _)))); done))
    (first | (go_at_call 18; (with_reducible refine (rof x HX.out _).mono ?_); rintro e wf1_1 ⟨s1, rfl, hr1_1, hb1_1⟩; have hx1_1 : Below w1.heap.size w1 wf1_1 := btr (by repeat (first | (with_reducible exact Below.refl _ _) | (with_reducible refine bal ?_ _) | (with_reducible refine Below.drew ?_) | (with_reducible refine bdn ?_ _))) hb1_1; have Af1 : Row4 wf1_1 w.heap.size (.int .u64 (lb 0 x)) (.int .u64 (lb 1 x)) (.int .u64 (lb 2 x)) (.int .u64 (lb 3 x)) := Row4.keep hb1_1 (by repeat (first | (with_reducible assumption) | (with_reducible refine Row4.alloc ?_ _) | (with_reducible refine Row4.drew ?_) | (with_reducible refine Row4.drewN ?_ _))); have Bf1 : Row4 wf1_1 (w.heap.size + 1) (.int .u64 (lb 0 y)) (.int .u64 (lb 1 y)) (.int .u64 (lb 2 y)) (.int .u64 (lb 3 y)) := Row4.keep hb1_1 (by repeat (first | (with_reducible assumption) | (with_reducible refine Row4.alloc ?_ _) | (with_reducible refine Row4.drew ?_) | (with_reducible refine Row4.drewN ?_ _)))) | (go_at_call 18; (with_reducible refine (rof y HY.out _).mono ?_); rintro e wf1_2 ⟨s2, rfl, hr1_2, hb1_2⟩; have hx1_2 : Below wf1_1.heap.size wf1_1 wf1_2 := btr (by repeat (first | (with_reducible exact Below.refl _ _) | (with_reducible refine bal ?_ _) | (with_reducible refine Below.drew ?_) | (with_reducible refine bdn ?_ _))) hb1_2; have Af2 : Row4 wf1_2 w.heap.size (.int .u64 (lb 0 x)) (.int .u64 (lb 1 x)) (.int .u64 (lb 2 x)) (.int .u64 (lb 3 x)) := Row4.keep hb1_2 (by repeat (first | (with_reducible assumption) | (with_reducible refine Row4.alloc ?_ _) | (with_reducible refine Row4.drew ?_) | (with_reducible refine Row4.drewN ?_ _))); have Bf2 : Row4 wf1_2 (w.heap.size + 1) (.int .u64 (lb 0 y)) (.int .u64 (lb 1 y)) (.int .u64 (lb 2 y)) (.int .u64 (lb 3 y)) := Row4.keep hb1_2 (by repeat (first | (with_reducible assumption) | (with_reducible refine Row4.alloc ?_ _) | (with_reducible refine Row4.drew ?_) | (with_reducible refine Row4.drewN ?_ _))); have DXf1_2 : DR wf1_2 s1 x := DR.keep hx1_2 hr1_1))
  have BW2 : Below w.heap.size w wf1_1 := btr (by repeat (first | (with_reducible exact BW1) | (with_reducible refine bal ?_ _) | (with_reducible refine Below.drew ?_) | (with_reducible refine bdn ?_ _))) hb1_1
  have A2 : Row4 wf1_1 w.heap.size (.int .u64 (lb 0 x)) (.int .u64 (lb 1 x)) (.int .u64 (lb 2 x)) (.int .u64 (lb 3 x)) := Row4.keep hb1_1 (by repeat (first | (with_reducible exact A1) | (with_reducible refine Row4.alloc ?_ _) | (with_reducible refine Row4.drew ?_)))
  have B2 : Row4 wf1_1 (w.heap.size + 1) (.int .u64 (lb 0 y)) (.int .u64 (lb 1 y)) (.int .u64 (lb 2 y)) (.int .u64 (lb 3 y)) := Row4.keep hb1_1 (by repeat (first | (with_reducible exact B1) | (with_reducible refine Row4.alloc ?_ _) | (with_reducible refine Row4.drew ?_)))
  clear A1 B1 Af1 Bf1 BW1
  have BW3 : Below w.heap.size w wf1_2 := btr (by repeat (first | (with_reducible exact BW2) | (with_reducible refine bal ?_ _) | (with_reducible refine Below.drew ?_) | (with_reducible refine bdn ?_ _))) hb1_2
  have A3 : Row4 wf1_2 w.heap.size (.int .u64 (lb 0 x)) (.int .u64 (lb 1 x)) (.int .u64 (lb 2 x)) (.int .u64 (lb 3 x)) := Row4.keep hb1_2 (by repeat (first | (with_reducible exact A2) | (with_reducible refine Row4.alloc ?_ _) | (with_reducible refine Row4.drew ?_)))
  have B3 : Row4 wf1_2 (w.heap.size + 1) (.int .u64 (lb 0 y)) (.int .u64 (lb 1 y)) (.int .u64 (lb 2 y)) (.int .u64 (lb 3 y)) := Row4.keep hb1_2 (by repeat (first | (with_reducible exact B2) | (with_reducible refine Row4.alloc ?_ _) | (with_reducible refine Row4.drew ?_)))
  clear A2 B2 Af2 Bf2 BW2
  have DX3 : DR wf1_2 s1 x := DXf1_2
  have DY3 : DR wf1_2 s2 y := hr1_2
  clear hb1_1 hx1_1
  clear hb1_2 hx1_2
  try clear DXf1_1
  try clear DYf1_1
  try clear DXf1_2
  try clear DYf1_2
  try clear hr1_1
  try clear hr1_2
  obtain ⟨Ac0, Ac1, Ac2, Ac3⟩ := A3.four
  obtain ⟨Af0, Af1, Af2, Af3⟩ := A3.free4
  obtain ⟨Bc0, Bc1, Bc2, Bc3⟩ := B3.four
  obtain ⟨Bf0, Bf1, Bf2, Bf3⟩ := B3.free4
  go_wp2_with fail
  refine (K1.out _).mono ?_
  rintro e w4 ⟨rfl, hb⟩
  have hbX : Below wf1_2.heap.size wf1_2 w4 := btr (by repeat (first | (with_reducible exact Below.refl _ _) | (with_reducible refine bal ?_ _) | (with_reducible refine Below.drew ?_) | (with_reducible refine bdn ?_ _))) hb
  have DX4 : DR w4 s1 x := DR.keep hbX DX3
  have DY4 : DR w4 s2 y := DR.keep hbX DY3
  clear DX3 DY3
  clear hbX
  have BW4 : Below w.heap.size w w4 := btr (by repeat (first | (with_reducible exact BW3) | (with_reducible refine bal ?_ _) | (with_reducible refine Below.drew ?_) | (with_reducible refine bdn ?_ _))) hb
  have A4 : Row4 w4 w.heap.size (.int .u64 (lb 0 x)) (.int .u64 (lb 1 x)) (.int .u64 (lb 2 x)) (.int .u64 (lb 3 x)) := Row4.keep hb (by repeat (first | (with_reducible exact A3) | (with_reducible refine Row4.alloc ?_ _) | (with_reducible refine Row4.drew ?_)))
  have B4 : Row4 w4 (w.heap.size + 1) (.int .u64 (lb 0 y)) (.int .u64 (lb 1 y)) (.int .u64 (lb 2 y)) (.int .u64 (lb 3 y)) := Row4.keep hb (by repeat (first | (with_reducible exact B3) | (with_reducible refine Row4.alloc ?_ _) | (with_reducible refine Row4.drew ?_)))
  clear A3 B3
  clear BW3
  clear hb
  go_upto_region 3 with (fail)
  go_name_world w5 hw5
  have BW5 : Below w.heap.size w w5 := by rw [← hw5]; repeat (first | (with_reducible exact BW4) | (with_reducible refine bal ?_ _) | (with_reducible refine Below.drew ?_) | (with_reducible refine bdn ?_ _))
  have hbX : Below w4.heap.size w4 w5 := by rw [← hw5]; repeat (first | (with_reducible exact Below.refl _ _) | (with_reducible refine bal ?_ _) | (with_reducible refine Below.drew ?_) | (with_reducible refine bdn ?_ _))
  have DX5 : DR w5 s1 x := DR.keep hbX DX4
  have DY5 : DR w5 s2 y := DR.keep hbX DY4
  clear hbX DX4 DY4
  have A5 : Row4 w5 w.heap.size (.int .u64 (lb 0 x)) (.int .u64 (lb 1 x)) (.int .u64 (lb 2 x)) (.int .u64 (lb 3 x)) := by rw [← hw5]; exact (by repeat (first | (with_reducible exact A4) | (with_reducible refine Row4.alloc ?_ _) | (with_reducible refine Row4.drew ?_)))
  have B5 : Row4 w5 (w.heap.size + 1) (.int .u64 (lb 0 y)) (.int .u64 (lb 1 y)) (.int .u64 (lb 2 y)) (.int .u64 (lb 3 y)) := by rw [← hw5]; exact (by repeat (first | (with_reducible exact B4) | (with_reducible refine Row4.alloc ?_ _) | (with_reducible refine Row4.drew ?_)))
  have apS_A := A4.lt
  have apS_B := B4.lt
  have apS_0 := (BW4).size
  have S5 : Row4 w5 w4.heap.size (.int .u64 (lb 0 sa)) (.int .u64 (lb 1 sa)) (.int .u64 (lb 2 sa)) (.int .u64 (lb 3 sa)) := by rw [← hw5]; exact (by repeat (first | (with_reducible exact Row4.new _ _ _ _ _) | ((with_reducible refine Row4.new' _ ?_ _ _ _ _); (simp; done)) | (with_reducible refine Row4.alloc ?_ _) | (with_reducible refine Row4.drew ?_)))
  clear A4 B4
  clear BW4
  clear hw5
  obtain ⟨Ac0, Ac1, Ac2, Ac3⟩ := A5.four
  obtain ⟨Af0, Af1, Af2, Af3⟩ := A5.free4
  obtain ⟨Bc0, Bc1, Bc2, Bc3⟩ := B5.four
  obtain ⟨Bf0, Bf1, Bf2, Bf3⟩ := B5.free4
  go_wp2_with fail
  refine (KS.out _).mono ?_
  rintro e w6 ⟨rfl, hb⟩
  have hbX : Below w5.heap.size w5 w6 := btr (by repeat (first | (with_reducible exact Below.refl _ _) | (with_reducible refine bal ?_ _) | (with_reducible refine Below.drew ?_) | (with_reducible refine bdn ?_ _))) hb
  have DX6 : DR w6 s1 x := DR.keep hbX DX5
  have DY6 : DR w6 s2 y := DR.keep hbX DY5
  clear DX5 DY5
  clear hbX
  have BW6 : Below w.heap.size w w6 := btr (by repeat (first | (with_reducible exact BW5) | (with_reducible refine bal ?_ _) | (with_reducible refine Below.drew ?_) | (with_reducible refine bdn ?_ _))) hb
  have A6 : Row4 w6 w.heap.size (.int .u64 (lb 0 x)) (.int .u64 (lb 1 x)) (.int .u64 (lb 2 x)) (.int .u64 (lb 3 x)) := Row4.keep hb (by repeat (first | (with_reducible exact A5) | (with_reducible refine Row4.alloc ?_ _) | (with_reducible refine Row4.drew ?_)))
  have B6 : Row4 w6 (w.heap.size + 1) (.int .u64 (lb 0 y)) (.int .u64 (lb 1 y)) (.int .u64 (lb 2 y)) (.int .u64 (lb 3 y)) := Row4.keep hb (by repeat (first | (with_reducible exact B5) | (with_reducible refine Row4.alloc ?_ _) | (with_reducible refine Row4.drew ?_)))
  have S6 : Row4 w6 w4.heap.size (.int .u64 (lb 0 sa)) (.int .u64 (lb 1 sa)) (.int .u64 (lb 2 sa)) (.int .u64 (lb 3 sa)) := Row4.keep hb (by repeat (first | (with_reducible exact S5) | (with_reducible refine Row4.alloc ?_ _) | (with_reducible refine Row4.drew ?_)))
  clear A5 B5 S5
  clear BW5
  clear hb
  go_upto_region 4 with (fail)
  go_name_world w7 hw7
  have BW7 : Below w.heap.size w w7 := by rw [← hw7]; repeat (first | (with_reducible exact BW6) | (with_reducible refine bal ?_ _) | (with_reducible refine Below.drew ?_) | (with_reducible refine bdn ?_ _))
  have hbX : Below w6.heap.size w6 w7 := by rw [← hw7]; repeat (first | (with_reducible exact Below.refl _ _) | (with_reducible refine bal ?_ _) | (with_reducible refine Below.drew ?_) | (with_reducible refine bdn ?_ _))
  have DX7 : DR w7 s1 x := DR.keep hbX DX6
  have DY7 : DR w7 s2 y := DR.keep hbX DY6
  clear hbX DX6 DY6
  have A7 : Row4 w7 w.heap.size (.int .u64 (lb 0 x)) (.int .u64 (lb 1 x)) (.int .u64 (lb 2 x)) (.int .u64 (lb 3 x)) := by rw [← hw7]; exact (by repeat (first | (with_reducible exact A6) | (with_reducible refine Row4.alloc ?_ _) | (with_reducible refine Row4.drew ?_)))
  have B7 : Row4 w7 (w.heap.size + 1) (.int .u64 (lb 0 y)) (.int .u64 (lb 1 y)) (.int .u64 (lb 2 y)) (.int .u64 (lb 3 y)) := by rw [← hw7]; exact (by repeat (first | (with_reducible exact B6) | (with_reducible refine Row4.alloc ?_ _) | (with_reducible refine Row4.drew ?_)))
  have S7 : Row4 w7 w4.heap.size (.int .u64 (lb 0 sa)) (.int .u64 (lb 1 sa)) (.int .u64 (lb 2 sa)) (.int .u64 (lb 3 sa)) := by rw [← hw7]; exact (by repeat (first | (with_reducible exact S6) | (with_reducible refine Row4.alloc ?_ _) | (with_reducible refine Row4.drew ?_)))
  have apE_A := A6.lt
  have apE_B := B6.lt
  have apE_S := S6.lt
  have apE_0 := (BW6).size
  have E7 : Row4 w7 w6.heap.size (.int .u64 (lb 0 sd)) (.int .u64 (lb 1 sd)) (.int .u64 (lb 2 sd)) (.int .u64 (lb 3 sd)) := by rw [← hw7]; exact (by repeat (first | (with_reducible exact Row4.new _ _ _ _ _) | ((with_reducible refine Row4.new' _ ?_ _ _ _ _); (simp; done)) | (with_reducible refine Row4.alloc ?_ _) | (with_reducible refine Row4.drew ?_)))
  clear A6 B6 S6
  clear BW6
  clear hw7
  obtain ⟨Ac0, Ac1, Ac2, Ac3⟩ := A7.four
  obtain ⟨Af0, Af1, Af2, Af3⟩ := A7.free4
  go_wp2_with fail
  refine (K3.out _).mono ?_
  rintro e w8 ⟨rfl, hb⟩
  have hbX : Below w7.heap.size w7 w8 := btr (by repeat (first | (with_reducible exact Below.refl _ _) | (with_reducible refine bal ?_ _) | (with_reducible refine Below.drew ?_) | (with_reducible refine bdn ?_ _))) hb
  have DX8 : DR w8 s1 x := DR.keep hbX DX7
  have DY8 : DR w8 s2 y := DR.keep hbX DY7
  clear DX7 DY7
  clear hbX
  have BW8 : Below w.heap.size w w8 := btr (by repeat (first | (with_reducible exact BW7) | (with_reducible refine bal ?_ _) | (with_reducible refine Below.drew ?_) | (with_reducible refine bdn ?_ _))) hb
  have A8 : Row4 w8 w.heap.size (.int .u64 (lb 0 x)) (.int .u64 (lb 1 x)) (.int .u64 (lb 2 x)) (.int .u64 (lb 3 x)) := Row4.keep hb (by repeat (first | (with_reducible exact A7) | (with_reducible refine Row4.alloc ?_ _) | (with_reducible refine Row4.drew ?_)))
  have B8 : Row4 w8 (w.heap.size + 1) (.int .u64 (lb 0 y)) (.int .u64 (lb 1 y)) (.int .u64 (lb 2 y)) (.int .u64 (lb 3 y)) := Row4.keep hb (by repeat (first | (with_reducible exact B7) | (with_reducible refine Row4.alloc ?_ _) | (with_reducible refine Row4.drew ?_)))
  have S8 : Row4 w8 w4.heap.size (.int .u64 (lb 0 sa)) (.int .u64 (lb 1 sa)) (.int .u64 (lb 2 sa)) (.int .u64 (lb 3 sa)) := Row4.keep hb (by repeat (first | (with_reducible exact S7) | (with_reducible refine Row4.alloc ?_ _) | (with_reducible refine Row4.drew ?_)))
  have E8 : Row4 w8 w6.heap.size (.int .u64 (lb 0 sd)) (.int .u64 (lb 1 sd)) (.int .u64 (lb 2 sd)) (.int .u64 (lb 3 sd)) := Row4.keep hb (by repeat (first | (with_reducible exact E7) | (with_reducible refine Row4.alloc ?_ _) | (with_reducible refine Row4.drew ?_)))
  clear A7 B7 S7 E7
  clear BW7
  clear hb
  go_upto_region 5 with (fail)
  go_name_world w9 hw9
  have BW9 : Below w.heap.size w w9 := by rw [← hw9]; repeat (first | (with_reducible exact BW8) | (with_reducible refine bal ?_ _) | (with_reducible refine Below.drew ?_) | (with_reducible refine bdn ?_ _))
  have hbX : Below w8.heap.size w8 w9 := by rw [← hw9]; repeat (first | (with_reducible exact Below.refl _ _) | (with_reducible refine bal ?_ _) | (with_reducible refine Below.drew ?_) | (with_reducible refine bdn ?_ _))
  have DX9 : DR w9 s1 x := DR.keep hbX DX8
  have DY9 : DR w9 s2 y := DR.keep hbX DY8
  clear hbX DX8 DY8
  have A9 : Row4 w9 w.heap.size (.int .u64 (lb 0 x)) (.int .u64 (lb 1 x)) (.int .u64 (lb 2 x)) (.int .u64 (lb 3 x)) := by rw [← hw9]; exact (by repeat (first | (with_reducible exact A8) | (with_reducible refine Row4.alloc ?_ _) | (with_reducible refine Row4.drew ?_)))
  have B9 : Row4 w9 (w.heap.size + 1) (.int .u64 (lb 0 y)) (.int .u64 (lb 1 y)) (.int .u64 (lb 2 y)) (.int .u64 (lb 3 y)) := by rw [← hw9]; exact (by repeat (first | (with_reducible exact B8) | (with_reducible refine Row4.alloc ?_ _) | (with_reducible refine Row4.drew ?_)))
  have S9 : Row4 w9 w4.heap.size (.int .u64 (lb 0 sa)) (.int .u64 (lb 1 sa)) (.int .u64 (lb 2 sa)) (.int .u64 (lb 3 sa)) := by rw [← hw9]; exact (by repeat (first | (with_reducible exact S8) | (with_reducible refine Row4.alloc ?_ _) | (with_reducible refine Row4.drew ?_)))
  have E9 : Row4 w9 w6.heap.size (.int .u64 (lb 0 sd)) (.int .u64 (lb 1 sd)) (.int .u64 (lb 2 sd)) (.int .u64 (lb 3 sd)) := by rw [← hw9]; exact (by repeat (first | (with_reducible exact E8) | (with_reducible refine Row4.alloc ?_ _) | (with_reducible refine Row4.drew ?_)))
  have apR_A := A8.lt
  have apR_B := B8.lt
  have apR_S := S8.lt
  have apR_E := E8.lt
  have apR_0 := (BW8).size
  have R9 : Row4 w9 w8.heap.size (.int .u64 (lb 0 sm)) (.int .u64 (lb 1 sm)) (.int .u64 (lb 2 sm)) (.int .u64 (lb 3 sm)) := by rw [← hw9]; exact (by repeat (first | (with_reducible exact Row4.new _ _ _ _ _) | ((with_reducible refine Row4.new' _ ?_ _ _ _ _); (simp; done)) | (with_reducible refine Row4.alloc ?_ _) | (with_reducible refine Row4.drew ?_)))
  clear A8 B8 S8 E8
  clear BW8
  clear hw9
  have lt_A := A9.lt
  have lt_B := B9.lt
  have lt_S := S9.lt
  have lt_E := E9.lt
  have lt_R := R9.lt
  go_region_held3 (fun w' => w'.cell? ⟨w4.heap.size, 0, none⟩ = some (.int .u64 (lb 0 sa)) ∧ w'.cell? ⟨w4.heap.size, 1, none⟩ = some (.int .u64 (lb 1 sa)) ∧ w'.cell? ⟨w4.heap.size, 2, none⟩ = some (.int .u64 (lb 2 sa)) ∧ w'.cell? ⟨w4.heap.size, 3, none⟩ = some (.int .u64 (lb 3 sa)) ∧ w'.cell? ⟨w8.heap.size, 0, none⟩ = some (.int .u64 (lb 0 sm)) ∧ w'.cell? ⟨w8.heap.size, 1, none⟩ = some (.int .u64 (lb 1 sm)) ∧ w'.cell? ⟨w8.heap.size, 2, none⟩ = some (.int .u64 (lb 2 sm)) ∧ w'.cell? ⟨w8.heap.size, 3, none⟩ = some (.int .u64 (lb 3 sm)))
    ((refine both44 ?_ ?_; (focus (repeat (first | (with_reducible assumption) | (with_reducible refine Row4.alloc ?_ _) | (with_reducible refine Row4.drew ?_) | (with_reducible refine Row4.drewN ?_ _)))); (focus (repeat (first | (with_reducible assumption) | (with_reducible refine Row4.alloc ?_ _) | (with_reducible refine Row4.drew ?_) | (with_reducible refine Row4.drewN ?_ _)))); done))
    (first | (go_at_call 23; (with_reducible refine (radd (DR.keep (by repeat (first | (with_reducible exact Below.refl _ _) | (with_reducible refine bal ?_ _) | (with_reducible refine Below.drew ?_) | (with_reducible refine bdn ?_ _))) DX9) (DR.keep (by repeat (first | (with_reducible exact Below.refl _ _) | (with_reducible refine bal ?_ _) | (with_reducible refine Below.drew ?_) | (with_reducible refine bdn ?_ _))) DY9) L1.out L2.out).mono ?_); rintro e wf9_1 ⟨s3, rfl, hr9_1, hb9_1⟩; have hx9_1 : Below w9.heap.size w9 wf9_1 := btr (by repeat (first | (with_reducible exact Below.refl _ _) | (with_reducible refine bal ?_ _) | (with_reducible refine Below.drew ?_) | (with_reducible refine bdn ?_ _))) hb9_1; have Sf1 : Row4 wf9_1 w4.heap.size (.int .u64 (lb 0 sa)) (.int .u64 (lb 1 sa)) (.int .u64 (lb 2 sa)) (.int .u64 (lb 3 sa)) := Row4.keep hb9_1 (by repeat (first | (with_reducible assumption) | (with_reducible refine Row4.alloc ?_ _) | (with_reducible refine Row4.drew ?_) | (with_reducible refine Row4.drewN ?_ _))); have Rf1 : Row4 wf9_1 w8.heap.size (.int .u64 (lb 0 sm)) (.int .u64 (lb 1 sm)) (.int .u64 (lb 2 sm)) (.int .u64 (lb 3 sm)) := Row4.keep hb9_1 (by repeat (first | (with_reducible assumption) | (with_reducible refine Row4.alloc ?_ _) | (with_reducible refine Row4.drew ?_) | (with_reducible refine Row4.drewN ?_ _))); have DXf9_1 : DR wf9_1 s1 x := DR.keep hx9_1 DX9; have DYf9_1 : DR wf9_1 s2 y := DR.keep hx9_1 DY9) | (go_at_call 22; (with_reducible refine (T1.out (DR.keep (by repeat (first | (with_reducible exact Below.refl _ _) | (with_reducible refine bal ?_ _) | (with_reducible refine Below.drew ?_) | (with_reducible refine bdn ?_ _))) hr9_1)).mono ?_); rintro e wf9_2 ⟨rfl, hb9_2⟩; have hx9_2 : Below wf9_1.heap.size wf9_1 wf9_2 := btr (by repeat (first | (with_reducible exact Below.refl _ _) | (with_reducible refine bal ?_ _) | (with_reducible refine Below.drew ?_) | (with_reducible refine bdn ?_ _))) hb9_2; have Sf2 : Row4 wf9_2 w4.heap.size (.int .u64 (lb 0 sa)) (.int .u64 (lb 1 sa)) (.int .u64 (lb 2 sa)) (.int .u64 (lb 3 sa)) := Row4.keep hb9_2 (by repeat (first | (with_reducible assumption) | (with_reducible refine Row4.alloc ?_ _) | (with_reducible refine Row4.drew ?_) | (with_reducible refine Row4.drewN ?_ _))); have Rf2 : Row4 wf9_2 w8.heap.size (.int .u64 (lb 0 sm)) (.int .u64 (lb 1 sm)) (.int .u64 (lb 2 sm)) (.int .u64 (lb 3 sm)) := Row4.keep hb9_2 (by repeat (first | (with_reducible assumption) | (with_reducible refine Row4.alloc ?_ _) | (with_reducible refine Row4.drew ?_) | (with_reducible refine Row4.drewN ?_ _))); have DXf9_2 : DR wf9_2 s1 x := DR.keep hx9_2 DXf9_1; have DYf9_2 : DR wf9_2 s2 y := DR.keep hx9_2 DYf9_1; have DAf9_2 : DR wf9_2 s3 (x + y) := DR.keep hx9_2 hr9_1) | (go_at_call 25; (with_reducible refine (rsmall m HM.out _).mono ?_); rintro e wf9_3 ⟨s4, rfl, hr9_3, hb9_3⟩; have hx9_3 : Below wf9_2.heap.size wf9_2 wf9_3 := btr (by repeat (first | (with_reducible exact Below.refl _ _) | (with_reducible refine bal ?_ _) | (with_reducible refine Below.drew ?_) | (with_reducible refine bdn ?_ _))) hb9_3; have Sf3 : Row4 wf9_3 w4.heap.size (.int .u64 (lb 0 sa)) (.int .u64 (lb 1 sa)) (.int .u64 (lb 2 sa)) (.int .u64 (lb 3 sa)) := Row4.keep hb9_3 (by repeat (first | (with_reducible assumption) | (with_reducible refine Row4.alloc ?_ _) | (with_reducible refine Row4.drew ?_) | (with_reducible refine Row4.drewN ?_ _))); have Rf3 : Row4 wf9_3 w8.heap.size (.int .u64 (lb 0 sm)) (.int .u64 (lb 1 sm)) (.int .u64 (lb 2 sm)) (.int .u64 (lb 3 sm)) := Row4.keep hb9_3 (by repeat (first | (with_reducible assumption) | (with_reducible refine Row4.alloc ?_ _) | (with_reducible refine Row4.drew ?_) | (with_reducible refine Row4.drewN ?_ _))); have DXf9_3 : DR wf9_3 s1 x := DR.keep hx9_3 DXf9_2; have DYf9_3 : DR wf9_3 s2 y := DR.keep hx9_3 DYf9_2; have DAf9_3 : DR wf9_3 s3 (x + y) := DR.keep hx9_3 DAf9_2) | (go_at_call 24; (with_reducible refine (rmul (DR.keep (by repeat (first | (with_reducible exact Below.refl _ _) | (with_reducible refine bal ?_ _) | (with_reducible refine Below.drew ?_) | (with_reducible refine bdn ?_ _))) DXf9_3) (DR.keep (by repeat (first | (with_reducible exact Below.refl _ _) | (with_reducible refine bal ?_ _) | (with_reducible refine Below.drew ?_) | (with_reducible refine bdn ?_ _))) hr9_3) L1.out L3.out).mono ?_); rintro e wf9_4 ⟨s5, rfl, hr9_4, hb9_4⟩; have hx9_4 : Below wf9_3.heap.size wf9_3 wf9_4 := btr (by repeat (first | (with_reducible exact Below.refl _ _) | (with_reducible refine bal ?_ _) | (with_reducible refine Below.drew ?_) | (with_reducible refine bdn ?_ _))) hb9_4; have Sf4 : Row4 wf9_4 w4.heap.size (.int .u64 (lb 0 sa)) (.int .u64 (lb 1 sa)) (.int .u64 (lb 2 sa)) (.int .u64 (lb 3 sa)) := Row4.keep hb9_4 (by repeat (first | (with_reducible assumption) | (with_reducible refine Row4.alloc ?_ _) | (with_reducible refine Row4.drew ?_) | (with_reducible refine Row4.drewN ?_ _))); have Rf4 : Row4 wf9_4 w8.heap.size (.int .u64 (lb 0 sm)) (.int .u64 (lb 1 sm)) (.int .u64 (lb 2 sm)) (.int .u64 (lb 3 sm)) := Row4.keep hb9_4 (by repeat (first | (with_reducible assumption) | (with_reducible refine Row4.alloc ?_ _) | (with_reducible refine Row4.drew ?_) | (with_reducible refine Row4.drewN ?_ _))); have DXf9_4 : DR wf9_4 s1 x := DR.keep hx9_4 DXf9_3; have DYf9_4 : DR wf9_4 s2 y := DR.keep hx9_4 DYf9_3; have DAf9_4 : DR wf9_4 s3 (x + y) := DR.keep hx9_4 DAf9_3; have DMf9_4 : DR wf9_4 s4 m := DR.keep hx9_4 hr9_3) | (go_at_call 22; (with_reducible refine (T2.out (DR.keep (by repeat (first | (with_reducible exact Below.refl _ _) | (with_reducible refine bal ?_ _) | (with_reducible refine Below.drew ?_) | (with_reducible refine bdn ?_ _))) hr9_4)).mono ?_); rintro e wf9_5 ⟨rfl, hb9_5⟩; have hx9_5 : Below wf9_4.heap.size wf9_4 wf9_5 := btr (by repeat (first | (with_reducible exact Below.refl _ _) | (with_reducible refine bal ?_ _) | (with_reducible refine Below.drew ?_) | (with_reducible refine bdn ?_ _))) hb9_5; have Sf5 : Row4 wf9_5 w4.heap.size (.int .u64 (lb 0 sa)) (.int .u64 (lb 1 sa)) (.int .u64 (lb 2 sa)) (.int .u64 (lb 3 sa)) := Row4.keep hb9_5 (by repeat (first | (with_reducible assumption) | (with_reducible refine Row4.alloc ?_ _) | (with_reducible refine Row4.drew ?_) | (with_reducible refine Row4.drewN ?_ _))); have Rf5 : Row4 wf9_5 w8.heap.size (.int .u64 (lb 0 sm)) (.int .u64 (lb 1 sm)) (.int .u64 (lb 2 sm)) (.int .u64 (lb 3 sm)) := Row4.keep hb9_5 (by repeat (first | (with_reducible assumption) | (with_reducible refine Row4.alloc ?_ _) | (with_reducible refine Row4.drew ?_) | (with_reducible refine Row4.drewN ?_ _))); have DXf9_5 : DR wf9_5 s1 x := DR.keep hx9_5 DXf9_4; have DYf9_5 : DR wf9_5 s2 y := DR.keep hx9_5 DYf9_4; have DAf9_5 : DR wf9_5 s3 (x + y) := DR.keep hx9_5 DAf9_4; have DMf9_5 : DR wf9_5 s4 m := DR.keep hx9_5 DMf9_4; have DPf9_5 : DR wf9_5 s5 (x * m) := DR.keep hx9_5 hr9_4))
  have BW10 : Below w.heap.size w wf9_1 := btr (by repeat (first | (with_reducible exact BW9) | (with_reducible refine bal ?_ _) | (with_reducible refine Below.drew ?_) | (with_reducible refine bdn ?_ _))) hb9_1
  have A10 : Row4 wf9_1 w.heap.size (.int .u64 (lb 0 x)) (.int .u64 (lb 1 x)) (.int .u64 (lb 2 x)) (.int .u64 (lb 3 x)) := Row4.keep hb9_1 (by repeat (first | (with_reducible exact A9) | (with_reducible refine Row4.alloc ?_ _) | (with_reducible refine Row4.drew ?_)))
  have B10 : Row4 wf9_1 (w.heap.size + 1) (.int .u64 (lb 0 y)) (.int .u64 (lb 1 y)) (.int .u64 (lb 2 y)) (.int .u64 (lb 3 y)) := Row4.keep hb9_1 (by repeat (first | (with_reducible exact B9) | (with_reducible refine Row4.alloc ?_ _) | (with_reducible refine Row4.drew ?_)))
  have S10 : Row4 wf9_1 w4.heap.size (.int .u64 (lb 0 sa)) (.int .u64 (lb 1 sa)) (.int .u64 (lb 2 sa)) (.int .u64 (lb 3 sa)) := Row4.keep hb9_1 (by repeat (first | (with_reducible exact S9) | (with_reducible refine Row4.alloc ?_ _) | (with_reducible refine Row4.drew ?_)))
  have E10 : Row4 wf9_1 w6.heap.size (.int .u64 (lb 0 sd)) (.int .u64 (lb 1 sd)) (.int .u64 (lb 2 sd)) (.int .u64 (lb 3 sd)) := Row4.keep hb9_1 (by repeat (first | (with_reducible exact E9) | (with_reducible refine Row4.alloc ?_ _) | (with_reducible refine Row4.drew ?_)))
  have R10 : Row4 wf9_1 w8.heap.size (.int .u64 (lb 0 sm)) (.int .u64 (lb 1 sm)) (.int .u64 (lb 2 sm)) (.int .u64 (lb 3 sm)) := Row4.keep hb9_1 (by repeat (first | (with_reducible exact R9) | (with_reducible refine Row4.alloc ?_ _) | (with_reducible refine Row4.drew ?_)))
  clear A9 B9 S9 E9 R9 Sf1 Rf1 BW9
  have BW11 : Below w.heap.size w wf9_2 := btr (by repeat (first | (with_reducible exact BW10) | (with_reducible refine bal ?_ _) | (with_reducible refine Below.drew ?_) | (with_reducible refine bdn ?_ _))) hb9_2
  have A11 : Row4 wf9_2 w.heap.size (.int .u64 (lb 0 x)) (.int .u64 (lb 1 x)) (.int .u64 (lb 2 x)) (.int .u64 (lb 3 x)) := Row4.keep hb9_2 (by repeat (first | (with_reducible exact A10) | (with_reducible refine Row4.alloc ?_ _) | (with_reducible refine Row4.drew ?_)))
  have B11 : Row4 wf9_2 (w.heap.size + 1) (.int .u64 (lb 0 y)) (.int .u64 (lb 1 y)) (.int .u64 (lb 2 y)) (.int .u64 (lb 3 y)) := Row4.keep hb9_2 (by repeat (first | (with_reducible exact B10) | (with_reducible refine Row4.alloc ?_ _) | (with_reducible refine Row4.drew ?_)))
  have S11 : Row4 wf9_2 w4.heap.size (.int .u64 (lb 0 sa)) (.int .u64 (lb 1 sa)) (.int .u64 (lb 2 sa)) (.int .u64 (lb 3 sa)) := Row4.keep hb9_2 (by repeat (first | (with_reducible exact S10) | (with_reducible refine Row4.alloc ?_ _) | (with_reducible refine Row4.drew ?_)))
  have E11 : Row4 wf9_2 w6.heap.size (.int .u64 (lb 0 sd)) (.int .u64 (lb 1 sd)) (.int .u64 (lb 2 sd)) (.int .u64 (lb 3 sd)) := Row4.keep hb9_2 (by repeat (first | (with_reducible exact E10) | (with_reducible refine Row4.alloc ?_ _) | (with_reducible refine Row4.drew ?_)))
  have R11 : Row4 wf9_2 w8.heap.size (.int .u64 (lb 0 sm)) (.int .u64 (lb 1 sm)) (.int .u64 (lb 2 sm)) (.int .u64 (lb 3 sm)) := Row4.keep hb9_2 (by repeat (first | (with_reducible exact R10) | (with_reducible refine Row4.alloc ?_ _) | (with_reducible refine Row4.drew ?_)))
  clear A10 B10 S10 E10 R10 Sf2 Rf2 BW10
  have BW12 : Below w.heap.size w wf9_3 := btr (by repeat (first | (with_reducible exact BW11) | (with_reducible refine bal ?_ _) | (with_reducible refine Below.drew ?_) | (with_reducible refine bdn ?_ _))) hb9_3
  have A12 : Row4 wf9_3 w.heap.size (.int .u64 (lb 0 x)) (.int .u64 (lb 1 x)) (.int .u64 (lb 2 x)) (.int .u64 (lb 3 x)) := Row4.keep hb9_3 (by repeat (first | (with_reducible exact A11) | (with_reducible refine Row4.alloc ?_ _) | (with_reducible refine Row4.drew ?_)))
  have B12 : Row4 wf9_3 (w.heap.size + 1) (.int .u64 (lb 0 y)) (.int .u64 (lb 1 y)) (.int .u64 (lb 2 y)) (.int .u64 (lb 3 y)) := Row4.keep hb9_3 (by repeat (first | (with_reducible exact B11) | (with_reducible refine Row4.alloc ?_ _) | (with_reducible refine Row4.drew ?_)))
  have S12 : Row4 wf9_3 w4.heap.size (.int .u64 (lb 0 sa)) (.int .u64 (lb 1 sa)) (.int .u64 (lb 2 sa)) (.int .u64 (lb 3 sa)) := Row4.keep hb9_3 (by repeat (first | (with_reducible exact S11) | (with_reducible refine Row4.alloc ?_ _) | (with_reducible refine Row4.drew ?_)))
  have E12 : Row4 wf9_3 w6.heap.size (.int .u64 (lb 0 sd)) (.int .u64 (lb 1 sd)) (.int .u64 (lb 2 sd)) (.int .u64 (lb 3 sd)) := Row4.keep hb9_3 (by repeat (first | (with_reducible exact E11) | (with_reducible refine Row4.alloc ?_ _) | (with_reducible refine Row4.drew ?_)))
  have R12 : Row4 wf9_3 w8.heap.size (.int .u64 (lb 0 sm)) (.int .u64 (lb 1 sm)) (.int .u64 (lb 2 sm)) (.int .u64 (lb 3 sm)) := Row4.keep hb9_3 (by repeat (first | (with_reducible exact R11) | (with_reducible refine Row4.alloc ?_ _) | (with_reducible refine Row4.drew ?_)))
  clear A11 B11 S11 E11 R11 Sf3 Rf3 BW11
  have BW13 : Below w.heap.size w wf9_4 := btr (by repeat (first | (with_reducible exact BW12) | (with_reducible refine bal ?_ _) | (with_reducible refine Below.drew ?_) | (with_reducible refine bdn ?_ _))) hb9_4
  have A13 : Row4 wf9_4 w.heap.size (.int .u64 (lb 0 x)) (.int .u64 (lb 1 x)) (.int .u64 (lb 2 x)) (.int .u64 (lb 3 x)) := Row4.keep hb9_4 (by repeat (first | (with_reducible exact A12) | (with_reducible refine Row4.alloc ?_ _) | (with_reducible refine Row4.drew ?_)))
  have B13 : Row4 wf9_4 (w.heap.size + 1) (.int .u64 (lb 0 y)) (.int .u64 (lb 1 y)) (.int .u64 (lb 2 y)) (.int .u64 (lb 3 y)) := Row4.keep hb9_4 (by repeat (first | (with_reducible exact B12) | (with_reducible refine Row4.alloc ?_ _) | (with_reducible refine Row4.drew ?_)))
  have S13 : Row4 wf9_4 w4.heap.size (.int .u64 (lb 0 sa)) (.int .u64 (lb 1 sa)) (.int .u64 (lb 2 sa)) (.int .u64 (lb 3 sa)) := Row4.keep hb9_4 (by repeat (first | (with_reducible exact S12) | (with_reducible refine Row4.alloc ?_ _) | (with_reducible refine Row4.drew ?_)))
  have E13 : Row4 wf9_4 w6.heap.size (.int .u64 (lb 0 sd)) (.int .u64 (lb 1 sd)) (.int .u64 (lb 2 sd)) (.int .u64 (lb 3 sd)) := Row4.keep hb9_4 (by repeat (first | (with_reducible exact E12) | (with_reducible refine Row4.alloc ?_ _) | (with_reducible refine Row4.drew ?_)))
  have R13 : Row4 wf9_4 w8.heap.size (.int .u64 (lb 0 sm)) (.int .u64 (lb 1 sm)) (.int .u64 (lb 2 sm)) (.int .u64 (lb 3 sm)) := Row4.keep hb9_4 (by repeat (first | (with_reducible exact R12) | (with_reducible refine Row4.alloc ?_ _) | (with_reducible refine Row4.drew ?_)))
  clear A12 B12 S12 E12 R12 Sf4 Rf4 BW12
  have BW14 : Below w.heap.size w wf9_5 := btr (by repeat (first | (with_reducible exact BW13) | (with_reducible refine bal ?_ _) | (with_reducible refine Below.drew ?_) | (with_reducible refine bdn ?_ _))) hb9_5
  have A14 : Row4 wf9_5 w.heap.size (.int .u64 (lb 0 x)) (.int .u64 (lb 1 x)) (.int .u64 (lb 2 x)) (.int .u64 (lb 3 x)) := Row4.keep hb9_5 (by repeat (first | (with_reducible exact A13) | (with_reducible refine Row4.alloc ?_ _) | (with_reducible refine Row4.drew ?_)))
  have B14 : Row4 wf9_5 (w.heap.size + 1) (.int .u64 (lb 0 y)) (.int .u64 (lb 1 y)) (.int .u64 (lb 2 y)) (.int .u64 (lb 3 y)) := Row4.keep hb9_5 (by repeat (first | (with_reducible exact B13) | (with_reducible refine Row4.alloc ?_ _) | (with_reducible refine Row4.drew ?_)))
  have S14 : Row4 wf9_5 w4.heap.size (.int .u64 (lb 0 sa)) (.int .u64 (lb 1 sa)) (.int .u64 (lb 2 sa)) (.int .u64 (lb 3 sa)) := Row4.keep hb9_5 (by repeat (first | (with_reducible exact S13) | (with_reducible refine Row4.alloc ?_ _) | (with_reducible refine Row4.drew ?_)))
  have E14 : Row4 wf9_5 w6.heap.size (.int .u64 (lb 0 sd)) (.int .u64 (lb 1 sd)) (.int .u64 (lb 2 sd)) (.int .u64 (lb 3 sd)) := Row4.keep hb9_5 (by repeat (first | (with_reducible exact E13) | (with_reducible refine Row4.alloc ?_ _) | (with_reducible refine Row4.drew ?_)))
  have R14 : Row4 wf9_5 w8.heap.size (.int .u64 (lb 0 sm)) (.int .u64 (lb 1 sm)) (.int .u64 (lb 2 sm)) (.int .u64 (lb 3 sm)) := Row4.keep hb9_5 (by repeat (first | (with_reducible exact R13) | (with_reducible refine Row4.alloc ?_ _) | (with_reducible refine Row4.drew ?_)))
  clear A13 B13 S13 E13 R13 Sf5 Rf5 BW13
  have DX14 : DR wf9_5 s1 x := DXf9_5
  have DY14 : DR wf9_5 s2 y := DYf9_5
  have DA14 : DR wf9_5 s3 (x + y) := DAf9_5
  have DM14 : DR wf9_5 s4 m := DMf9_5
  have DP14 : DR wf9_5 s5 (x * m) := DPf9_5
  clear hb9_1 hx9_1
  clear hb9_2 hx9_2
  clear hb9_3 hx9_3
  clear hb9_4 hx9_4
  clear hb9_5 hx9_5
  try clear DXf9_1
  try clear DYf9_1
  try clear DAf9_1
  try clear DMf9_1
  try clear DPf9_1
  try clear DXf9_2
  try clear DYf9_2
  try clear DAf9_2
  try clear DMf9_2
  try clear DPf9_2
  try clear DXf9_3
  try clear DYf9_3
  try clear DAf9_3
  try clear DMf9_3
  try clear DPf9_3
  try clear DXf9_4
  try clear DYf9_4
  try clear DAf9_4
  try clear DMf9_4
  try clear DPf9_4
  try clear DXf9_5
  try clear DYf9_5
  try clear DAf9_5
  try clear DMf9_5
  try clear DPf9_5
  try clear hr9_1
  try clear hr9_3
  try clear hr9_4
  try clear DX9
  try clear DY9
  have hcm := fun (W : World) (hW : Below wf9_5.heap.size wf9_5 W) => rcmp (w := W) (DR.keep hW DX14) (DR.keep hW DY14) L1.out
  rw [← HCV.out] at hcm
  have HCM := Lib.hid hcm; clear hcm
  go_wp2_with fail
  refine (HCM.out _ (by repeat (first | (with_reducible exact Below.refl _ _) | (with_reducible refine bal ?_ _) | (with_reducible refine Below.drew ?_) | (with_reducible refine bdn ?_ _)))).mono ?_
  rintro e w15 ⟨rfl, hb⟩
  have hbX : Below wf9_5.heap.size wf9_5 w15 := btr (by repeat (first | (with_reducible exact Below.refl _ _) | (with_reducible refine bal ?_ _) | (with_reducible refine Below.drew ?_) | (with_reducible refine bdn ?_ _))) hb
  have DX15 : DR w15 s1 x := DR.keep hbX DX14
  have DY15 : DR w15 s2 y := DR.keep hbX DY14
  have DA15 : DR w15 s3 (x + y) := DR.keep hbX DA14
  have DM15 : DR w15 s4 m := DR.keep hbX DM14
  have DP15 : DR w15 s5 (x * m) := DR.keep hbX DP14
  clear DX14 DY14 DA14 DM14 DP14
  clear hbX
  have BW15 : Below w.heap.size w w15 := btr (by repeat (first | (with_reducible exact BW14) | (with_reducible refine bal ?_ _) | (with_reducible refine Below.drew ?_) | (with_reducible refine bdn ?_ _))) hb
  have A15 : Row4 w15 w.heap.size (.int .u64 (lb 0 x)) (.int .u64 (lb 1 x)) (.int .u64 (lb 2 x)) (.int .u64 (lb 3 x)) := Row4.keep hb (by repeat (first | (with_reducible exact A14) | (with_reducible refine Row4.alloc ?_ _) | (with_reducible refine Row4.drew ?_)))
  have B15 : Row4 w15 (w.heap.size + 1) (.int .u64 (lb 0 y)) (.int .u64 (lb 1 y)) (.int .u64 (lb 2 y)) (.int .u64 (lb 3 y)) := Row4.keep hb (by repeat (first | (with_reducible exact B14) | (with_reducible refine Row4.alloc ?_ _) | (with_reducible refine Row4.drew ?_)))
  have S15 : Row4 w15 w4.heap.size (.int .u64 (lb 0 sa)) (.int .u64 (lb 1 sa)) (.int .u64 (lb 2 sa)) (.int .u64 (lb 3 sa)) := Row4.keep hb (by repeat (first | (with_reducible exact S14) | (with_reducible refine Row4.alloc ?_ _) | (with_reducible refine Row4.drew ?_)))
  have E15 : Row4 w15 w6.heap.size (.int .u64 (lb 0 sd)) (.int .u64 (lb 1 sd)) (.int .u64 (lb 2 sd)) (.int .u64 (lb 3 sd)) := Row4.keep hb (by repeat (first | (with_reducible exact E14) | (with_reducible refine Row4.alloc ?_ _) | (with_reducible refine Row4.drew ?_)))
  have R15 : Row4 w15 w8.heap.size (.int .u64 (lb 0 sm)) (.int .u64 (lb 1 sm)) (.int .u64 (lb 2 sm)) (.int .u64 (lb 3 sm)) := Row4.keep hb (by repeat (first | (with_reducible exact R14) | (with_reducible refine Row4.alloc ?_ _) | (with_reducible refine Row4.drew ?_)))
  clear A14 B14 S14 E14 R14
  clear BW14
  clear hb
  clear HCM
  go_upto_region 11 with (fail)
  go_name_world w16 hw16
  have BW16 : Below w.heap.size w w16 := by rw [← hw16]; repeat (first | (with_reducible exact BW15) | (with_reducible refine bal ?_ _) | (with_reducible refine Below.drew ?_) | (with_reducible refine bdn ?_ _))
  have hbX : Below w15.heap.size w15 w16 := by rw [← hw16]; repeat (first | (with_reducible exact Below.refl _ _) | (with_reducible refine bal ?_ _) | (with_reducible refine Below.drew ?_) | (with_reducible refine bdn ?_ _))
  have DX16 : DR w16 s1 x := DR.keep hbX DX15
  have DY16 : DR w16 s2 y := DR.keep hbX DY15
  have DA16 : DR w16 s3 (x + y) := DR.keep hbX DA15
  have DM16 : DR w16 s4 m := DR.keep hbX DM15
  have DP16 : DR w16 s5 (x * m) := DR.keep hbX DP15
  clear hbX DX15 DY15 DA15 DM15 DP15
  have A16 : Row4 w16 w.heap.size (.int .u64 (lb 0 x)) (.int .u64 (lb 1 x)) (.int .u64 (lb 2 x)) (.int .u64 (lb 3 x)) := by rw [← hw16]; exact (by repeat (first | (with_reducible exact A15) | (with_reducible refine Row4.alloc ?_ _) | (with_reducible refine Row4.drew ?_)))
  have B16 : Row4 w16 (w.heap.size + 1) (.int .u64 (lb 0 y)) (.int .u64 (lb 1 y)) (.int .u64 (lb 2 y)) (.int .u64 (lb 3 y)) := by rw [← hw16]; exact (by repeat (first | (with_reducible exact B15) | (with_reducible refine Row4.alloc ?_ _) | (with_reducible refine Row4.drew ?_)))
  have S16 : Row4 w16 w4.heap.size (.int .u64 (lb 0 sa)) (.int .u64 (lb 1 sa)) (.int .u64 (lb 2 sa)) (.int .u64 (lb 3 sa)) := by rw [← hw16]; exact (by repeat (first | (with_reducible exact S15) | (with_reducible refine Row4.alloc ?_ _) | (with_reducible refine Row4.drew ?_)))
  have E16 : Row4 w16 w6.heap.size (.int .u64 (lb 0 sd)) (.int .u64 (lb 1 sd)) (.int .u64 (lb 2 sd)) (.int .u64 (lb 3 sd)) := by rw [← hw16]; exact (by repeat (first | (with_reducible exact E15) | (with_reducible refine Row4.alloc ?_ _) | (with_reducible refine Row4.drew ?_)))
  have R16 : Row4 w16 w8.heap.size (.int .u64 (lb 0 sm)) (.int .u64 (lb 1 sm)) (.int .u64 (lb 2 sm)) (.int .u64 (lb 3 sm)) := by rw [← hw16]; exact (by repeat (first | (with_reducible exact R15) | (with_reducible refine Row4.alloc ?_ _) | (with_reducible refine Row4.drew ?_)))
  clear A15 B15 S15 E15 R15
  clear BW15
  clear hw16
  have lt_A := A16.lt
  have lt_B := B16.lt
  have lt_S := S16.lt
  have lt_E := E16.lt
  have lt_R := R16.lt
  go_region_held3 (fun w' => w'.cell? ⟨w6.heap.size, 0, none⟩ = some (.int .u64 (lb 0 sd)) ∧ w'.cell? ⟨w6.heap.size, 1, none⟩ = some (.int .u64 (lb 1 sd)) ∧ w'.cell? ⟨w6.heap.size, 2, none⟩ = some (.int .u64 (lb 2 sd)) ∧ w'.cell? ⟨w6.heap.size, 3, none⟩ = some (.int .u64 (lb 3 sd)))
    ((refine Row4.four ?_; (repeat (first | (with_reducible assumption) | (with_reducible refine Row4.alloc ?_ _) | (with_reducible refine Row4.drew ?_) | (with_reducible refine Row4.drewN ?_ _))); done))
    (first | (go_at_call 27; (with_reducible refine (rsub (DR.keep (by repeat (first | (with_reducible exact Below.refl _ _) | (with_reducible refine bal ?_ _) | (with_reducible refine Below.drew ?_) | (with_reducible refine bdn ?_ _))) DX16) (DR.keep (by repeat (first | (with_reducible exact Below.refl _ _) | (with_reducible refine bal ?_ _) | (with_reducible refine Below.drew ?_) | (with_reducible refine bdn ?_ _))) DY16) L1.out HXY.out).mono ?_); rintro e wf16_1 ⟨s6, rfl, hr16_1, hb16_1⟩; have hx16_1 : Below w16.heap.size w16 wf16_1 := btr (by repeat (first | (with_reducible exact Below.refl _ _) | (with_reducible refine bal ?_ _) | (with_reducible refine Below.drew ?_) | (with_reducible refine bdn ?_ _))) hb16_1; have Ef1 : Row4 wf16_1 w6.heap.size (.int .u64 (lb 0 sd)) (.int .u64 (lb 1 sd)) (.int .u64 (lb 2 sd)) (.int .u64 (lb 3 sd)) := Row4.keep hb16_1 (by repeat (first | (with_reducible assumption) | (with_reducible refine Row4.alloc ?_ _) | (with_reducible refine Row4.drew ?_) | (with_reducible refine Row4.drewN ?_ _))); have DXf16_1 : DR wf16_1 s1 x := DR.keep hx16_1 DX16; have DYf16_1 : DR wf16_1 s2 y := DR.keep hx16_1 DY16; have DAf16_1 : DR wf16_1 s3 (x + y) := DR.keep hx16_1 DA16; have DMf16_1 : DR wf16_1 s4 m := DR.keep hx16_1 DM16; have DPf16_1 : DR wf16_1 s5 (x * m) := DR.keep hx16_1 DP16) | (go_at_call 22; (with_reducible refine (T3.out (DR.keep (by repeat (first | (with_reducible exact Below.refl _ _) | (with_reducible refine bal ?_ _) | (with_reducible refine Below.drew ?_) | (with_reducible refine bdn ?_ _))) hr16_1)).mono ?_); rintro e wf16_2 ⟨rfl, hb16_2⟩; have hx16_2 : Below wf16_1.heap.size wf16_1 wf16_2 := btr (by repeat (first | (with_reducible exact Below.refl _ _) | (with_reducible refine bal ?_ _) | (with_reducible refine Below.drew ?_) | (with_reducible refine bdn ?_ _))) hb16_2; have Ef2 : Row4 wf16_2 w6.heap.size (.int .u64 (lb 0 sd)) (.int .u64 (lb 1 sd)) (.int .u64 (lb 2 sd)) (.int .u64 (lb 3 sd)) := Row4.keep hb16_2 (by repeat (first | (with_reducible assumption) | (with_reducible refine Row4.alloc ?_ _) | (with_reducible refine Row4.drew ?_) | (with_reducible refine Row4.drewN ?_ _))); have DXf16_2 : DR wf16_2 s1 x := DR.keep hx16_2 DXf16_1; have DYf16_2 : DR wf16_2 s2 y := DR.keep hx16_2 DYf16_1; have DAf16_2 : DR wf16_2 s3 (x + y) := DR.keep hx16_2 DAf16_1; have DMf16_2 : DR wf16_2 s4 m := DR.keep hx16_2 DMf16_1; have DPf16_2 : DR wf16_2 s5 (x * m) := DR.keep hx16_2 DPf16_1; have DSf16_2 : DR wf16_2 s6 (x - y) := DR.keep hx16_2 hr16_1))
  have BW17 : Below w.heap.size w wf16_1 := btr (by repeat (first | (with_reducible exact BW16) | (with_reducible refine bal ?_ _) | (with_reducible refine Below.drew ?_) | (with_reducible refine bdn ?_ _))) hb16_1
  have A17 : Row4 wf16_1 w.heap.size (.int .u64 (lb 0 x)) (.int .u64 (lb 1 x)) (.int .u64 (lb 2 x)) (.int .u64 (lb 3 x)) := Row4.keep hb16_1 (by repeat (first | (with_reducible exact A16) | (with_reducible refine Row4.alloc ?_ _) | (with_reducible refine Row4.drew ?_)))
  have B17 : Row4 wf16_1 (w.heap.size + 1) (.int .u64 (lb 0 y)) (.int .u64 (lb 1 y)) (.int .u64 (lb 2 y)) (.int .u64 (lb 3 y)) := Row4.keep hb16_1 (by repeat (first | (with_reducible exact B16) | (with_reducible refine Row4.alloc ?_ _) | (with_reducible refine Row4.drew ?_)))
  have S17 : Row4 wf16_1 w4.heap.size (.int .u64 (lb 0 sa)) (.int .u64 (lb 1 sa)) (.int .u64 (lb 2 sa)) (.int .u64 (lb 3 sa)) := Row4.keep hb16_1 (by repeat (first | (with_reducible exact S16) | (with_reducible refine Row4.alloc ?_ _) | (with_reducible refine Row4.drew ?_)))
  have E17 : Row4 wf16_1 w6.heap.size (.int .u64 (lb 0 sd)) (.int .u64 (lb 1 sd)) (.int .u64 (lb 2 sd)) (.int .u64 (lb 3 sd)) := Row4.keep hb16_1 (by repeat (first | (with_reducible exact E16) | (with_reducible refine Row4.alloc ?_ _) | (with_reducible refine Row4.drew ?_)))
  have R17 : Row4 wf16_1 w8.heap.size (.int .u64 (lb 0 sm)) (.int .u64 (lb 1 sm)) (.int .u64 (lb 2 sm)) (.int .u64 (lb 3 sm)) := Row4.keep hb16_1 (by repeat (first | (with_reducible exact R16) | (with_reducible refine Row4.alloc ?_ _) | (with_reducible refine Row4.drew ?_)))
  clear A16 B16 S16 E16 R16 Ef1 BW16
  have BW18 : Below w.heap.size w wf16_2 := btr (by repeat (first | (with_reducible exact BW17) | (with_reducible refine bal ?_ _) | (with_reducible refine Below.drew ?_) | (with_reducible refine bdn ?_ _))) hb16_2
  have A18 : Row4 wf16_2 w.heap.size (.int .u64 (lb 0 x)) (.int .u64 (lb 1 x)) (.int .u64 (lb 2 x)) (.int .u64 (lb 3 x)) := Row4.keep hb16_2 (by repeat (first | (with_reducible exact A17) | (with_reducible refine Row4.alloc ?_ _) | (with_reducible refine Row4.drew ?_)))
  have B18 : Row4 wf16_2 (w.heap.size + 1) (.int .u64 (lb 0 y)) (.int .u64 (lb 1 y)) (.int .u64 (lb 2 y)) (.int .u64 (lb 3 y)) := Row4.keep hb16_2 (by repeat (first | (with_reducible exact B17) | (with_reducible refine Row4.alloc ?_ _) | (with_reducible refine Row4.drew ?_)))
  have S18 : Row4 wf16_2 w4.heap.size (.int .u64 (lb 0 sa)) (.int .u64 (lb 1 sa)) (.int .u64 (lb 2 sa)) (.int .u64 (lb 3 sa)) := Row4.keep hb16_2 (by repeat (first | (with_reducible exact S17) | (with_reducible refine Row4.alloc ?_ _) | (with_reducible refine Row4.drew ?_)))
  have E18 : Row4 wf16_2 w6.heap.size (.int .u64 (lb 0 sd)) (.int .u64 (lb 1 sd)) (.int .u64 (lb 2 sd)) (.int .u64 (lb 3 sd)) := Row4.keep hb16_2 (by repeat (first | (with_reducible exact E17) | (with_reducible refine Row4.alloc ?_ _) | (with_reducible refine Row4.drew ?_)))
  have R18 : Row4 wf16_2 w8.heap.size (.int .u64 (lb 0 sm)) (.int .u64 (lb 1 sm)) (.int .u64 (lb 2 sm)) (.int .u64 (lb 3 sm)) := Row4.keep hb16_2 (by repeat (first | (with_reducible exact R17) | (with_reducible refine Row4.alloc ?_ _) | (with_reducible refine Row4.drew ?_)))
  clear A17 B17 S17 E17 R17 Ef2 BW17
  have DX18 : DR wf16_2 s1 x := DXf16_2
  have DY18 : DR wf16_2 s2 y := DYf16_2
  have DA18 : DR wf16_2 s3 (x + y) := DAf16_2
  have DM18 : DR wf16_2 s4 m := DMf16_2
  have DP18 : DR wf16_2 s5 (x * m) := DPf16_2
  have DS18 : DR wf16_2 s6 (x - y) := DSf16_2
  clear hb16_1 hx16_1
  clear hb16_2 hx16_2
  try clear DXf16_1
  try clear DYf16_1
  try clear DAf16_1
  try clear DMf16_1
  try clear DPf16_1
  try clear DSf16_1
  try clear DXf16_2
  try clear DYf16_2
  try clear DAf16_2
  try clear DMf16_2
  try clear DPf16_2
  try clear DSf16_2
  try clear hr16_1
  try clear DX16
  try clear DY16
  try clear DA16
  try clear DM16
  try clear DP16
  go_wp2_with fail
  refine (told_true _ (tab_on HT.out (by repeat (first | (with_reducible exact BW18) | (with_reducible refine bal ?_ _) | (with_reducible refine Below.drew ?_) | (with_reducible refine bdn ?_ _))))).mono ?_
  rintro e w19 ⟨rfl, hb⟩
  have hbX : Below wf16_2.heap.size wf16_2 w19 := btr (by repeat (first | (with_reducible exact Below.refl _ _) | (with_reducible refine bal ?_ _) | (with_reducible refine Below.drew ?_) | (with_reducible refine bdn ?_ _))) hb
  have DX19 : DR w19 s1 x := DR.keep hbX DX18
  have DY19 : DR w19 s2 y := DR.keep hbX DY18
  have DA19 : DR w19 s3 (x + y) := DR.keep hbX DA18
  have DM19 : DR w19 s4 m := DR.keep hbX DM18
  have DP19 : DR w19 s5 (x * m) := DR.keep hbX DP18
  have DS19 : DR w19 s6 (x - y) := DR.keep hbX DS18
  clear DX18 DY18 DA18 DM18 DP18 DS18
  clear hbX
  have BW19 : Below w.heap.size w w19 := btr (by repeat (first | (with_reducible exact BW18) | (with_reducible refine bal ?_ _) | (with_reducible refine Below.drew ?_) | (with_reducible refine bdn ?_ _))) hb
  have A19 : Row4 w19 w.heap.size (.int .u64 (lb 0 x)) (.int .u64 (lb 1 x)) (.int .u64 (lb 2 x)) (.int .u64 (lb 3 x)) := Row4.keep hb (by repeat (first | (with_reducible exact A18) | (with_reducible refine Row4.alloc ?_ _) | (with_reducible refine Row4.drew ?_)))
  have B19 : Row4 w19 (w.heap.size + 1) (.int .u64 (lb 0 y)) (.int .u64 (lb 1 y)) (.int .u64 (lb 2 y)) (.int .u64 (lb 3 y)) := Row4.keep hb (by repeat (first | (with_reducible exact B18) | (with_reducible refine Row4.alloc ?_ _) | (with_reducible refine Row4.drew ?_)))
  have S19 : Row4 w19 w4.heap.size (.int .u64 (lb 0 sa)) (.int .u64 (lb 1 sa)) (.int .u64 (lb 2 sa)) (.int .u64 (lb 3 sa)) := Row4.keep hb (by repeat (first | (with_reducible exact S18) | (with_reducible refine Row4.alloc ?_ _) | (with_reducible refine Row4.drew ?_)))
  have E19 : Row4 w19 w6.heap.size (.int .u64 (lb 0 sd)) (.int .u64 (lb 1 sd)) (.int .u64 (lb 2 sd)) (.int .u64 (lb 3 sd)) := Row4.keep hb (by repeat (first | (with_reducible exact E18) | (with_reducible refine Row4.alloc ?_ _) | (with_reducible refine Row4.drew ?_)))
  have R19 : Row4 w19 w8.heap.size (.int .u64 (lb 0 sm)) (.int .u64 (lb 1 sm)) (.int .u64 (lb 2 sm)) (.int .u64 (lb 3 sm)) := Row4.keep hb (by repeat (first | (with_reducible exact R18) | (with_reducible refine Row4.alloc ?_ _) | (with_reducible refine Row4.drew ?_)))
  clear A18 B18 S18 E18 R18
  clear BW18
  clear hb
  obtain ⟨Ac0, Ac1, Ac2, Ac3⟩ := A19.four
  obtain ⟨Af0, Af1, Af2, Af3⟩ := A19.free4
  obtain ⟨Bc0, Bc1, Bc2, Bc3⟩ := B19.four
  obtain ⟨Bf0, Bf1, Bf2, Bf3⟩ := B19.free4
  go_wp2_with fail
  refine (KC.out _).mono ?_
  rintro e w20 ⟨rfl, hb⟩
  have hbX : Below w19.heap.size w19 w20 := btr (by repeat (first | (with_reducible exact Below.refl _ _) | (with_reducible refine bal ?_ _) | (with_reducible refine Below.drew ?_) | (with_reducible refine bdn ?_ _))) hb
  have DX20 : DR w20 s1 x := DR.keep hbX DX19
  have DY20 : DR w20 s2 y := DR.keep hbX DY19
  have DA20 : DR w20 s3 (x + y) := DR.keep hbX DA19
  have DM20 : DR w20 s4 m := DR.keep hbX DM19
  have DP20 : DR w20 s5 (x * m) := DR.keep hbX DP19
  have DS20 : DR w20 s6 (x - y) := DR.keep hbX DS19
  clear DX19 DY19 DA19 DM19 DP19 DS19
  clear hbX
  have BW20 : Below w.heap.size w w20 := btr (by repeat (first | (with_reducible exact BW19) | (with_reducible refine bal ?_ _) | (with_reducible refine Below.drew ?_) | (with_reducible refine bdn ?_ _))) hb
  have A20 : Row4 w20 w.heap.size (.int .u64 (lb 0 x)) (.int .u64 (lb 1 x)) (.int .u64 (lb 2 x)) (.int .u64 (lb 3 x)) := Row4.keep hb (by repeat (first | (with_reducible exact A19) | (with_reducible refine Row4.alloc ?_ _) | (with_reducible refine Row4.drew ?_)))
  have B20 : Row4 w20 (w.heap.size + 1) (.int .u64 (lb 0 y)) (.int .u64 (lb 1 y)) (.int .u64 (lb 2 y)) (.int .u64 (lb 3 y)) := Row4.keep hb (by repeat (first | (with_reducible exact B19) | (with_reducible refine Row4.alloc ?_ _) | (with_reducible refine Row4.drew ?_)))
  have S20 : Row4 w20 w4.heap.size (.int .u64 (lb 0 sa)) (.int .u64 (lb 1 sa)) (.int .u64 (lb 2 sa)) (.int .u64 (lb 3 sa)) := Row4.keep hb (by repeat (first | (with_reducible exact S19) | (with_reducible refine Row4.alloc ?_ _) | (with_reducible refine Row4.drew ?_)))
  have E20 : Row4 w20 w6.heap.size (.int .u64 (lb 0 sd)) (.int .u64 (lb 1 sd)) (.int .u64 (lb 2 sd)) (.int .u64 (lb 3 sd)) := Row4.keep hb (by repeat (first | (with_reducible exact E19) | (with_reducible refine Row4.alloc ?_ _) | (with_reducible refine Row4.drew ?_)))
  have R20 : Row4 w20 w8.heap.size (.int .u64 (lb 0 sm)) (.int .u64 (lb 1 sm)) (.int .u64 (lb 2 sm)) (.int .u64 (lb 3 sm)) := Row4.keep hb (by repeat (first | (with_reducible exact R19) | (with_reducible refine Row4.alloc ?_ _) | (with_reducible refine Row4.drew ?_)))
  clear A19 B19 S19 E19 R19
  clear BW19
  clear hb
  have hcm := fun (W : World) (hW : Below w20.heap.size w20 W) => rcmp (w := W) (DR.keep hW DX20) (DR.keep hW DY20) L1.out
  rw [← HCV.out] at hcm
  have HCM := Lib.hid hcm; clear hcm
  go_wp2_with fail
  refine (HCM.out _ (by repeat (first | (with_reducible exact Below.refl _ _) | (with_reducible refine bal ?_ _) | (with_reducible refine Below.drew ?_) | (with_reducible refine bdn ?_ _)))).mono ?_
  rintro e w21 ⟨rfl, hb⟩
  have hbX : Below w20.heap.size w20 w21 := btr (by repeat (first | (with_reducible exact Below.refl _ _) | (with_reducible refine bal ?_ _) | (with_reducible refine Below.drew ?_) | (with_reducible refine bdn ?_ _))) hb
  have DX21 : DR w21 s1 x := DR.keep hbX DX20
  have DY21 : DR w21 s2 y := DR.keep hbX DY20
  have DA21 : DR w21 s3 (x + y) := DR.keep hbX DA20
  have DM21 : DR w21 s4 m := DR.keep hbX DM20
  have DP21 : DR w21 s5 (x * m) := DR.keep hbX DP20
  have DS21 : DR w21 s6 (x - y) := DR.keep hbX DS20
  clear DX20 DY20 DA20 DM20 DP20 DS20
  clear hbX
  have BW21 : Below w.heap.size w w21 := btr (by repeat (first | (with_reducible exact BW20) | (with_reducible refine bal ?_ _) | (with_reducible refine Below.drew ?_) | (with_reducible refine bdn ?_ _))) hb
  have A21 : Row4 w21 w.heap.size (.int .u64 (lb 0 x)) (.int .u64 (lb 1 x)) (.int .u64 (lb 2 x)) (.int .u64 (lb 3 x)) := Row4.keep hb (by repeat (first | (with_reducible exact A20) | (with_reducible refine Row4.alloc ?_ _) | (with_reducible refine Row4.drew ?_)))
  have B21 : Row4 w21 (w.heap.size + 1) (.int .u64 (lb 0 y)) (.int .u64 (lb 1 y)) (.int .u64 (lb 2 y)) (.int .u64 (lb 3 y)) := Row4.keep hb (by repeat (first | (with_reducible exact B20) | (with_reducible refine Row4.alloc ?_ _) | (with_reducible refine Row4.drew ?_)))
  have S21 : Row4 w21 w4.heap.size (.int .u64 (lb 0 sa)) (.int .u64 (lb 1 sa)) (.int .u64 (lb 2 sa)) (.int .u64 (lb 3 sa)) := Row4.keep hb (by repeat (first | (with_reducible exact S20) | (with_reducible refine Row4.alloc ?_ _) | (with_reducible refine Row4.drew ?_)))
  have E21 : Row4 w21 w6.heap.size (.int .u64 (lb 0 sd)) (.int .u64 (lb 1 sd)) (.int .u64 (lb 2 sd)) (.int .u64 (lb 3 sd)) := Row4.keep hb (by repeat (first | (with_reducible exact E20) | (with_reducible refine Row4.alloc ?_ _) | (with_reducible refine Row4.drew ?_)))
  have R21 : Row4 w21 w8.heap.size (.int .u64 (lb 0 sm)) (.int .u64 (lb 1 sm)) (.int .u64 (lb 2 sm)) (.int .u64 (lb 3 sm)) := Row4.keep hb (by repeat (first | (with_reducible exact R20) | (with_reducible refine Row4.alloc ?_ _) | (with_reducible refine Row4.drew ?_)))
  clear A20 B20 S20 E20 R20
  clear BW20
  clear hb
  clear HCM
  obtain ⟨Ac0, Ac1, Ac2, Ac3⟩ := A21.four
  obtain ⟨Af0, Af1, Af2, Af3⟩ := A21.free4
  go_wp2_with fail
  refine (KD.out _).mono ?_
  rintro e w22 ⟨rfl, hb⟩
  have hbX : Below w21.heap.size w21 w22 := btr (by repeat (first | (with_reducible exact Below.refl _ _) | (with_reducible refine bal ?_ _) | (with_reducible refine Below.drew ?_) | (with_reducible refine bdn ?_ _))) hb
  have DX22 : DR w22 s1 x := DR.keep hbX DX21
  have DY22 : DR w22 s2 y := DR.keep hbX DY21
  have DA22 : DR w22 s3 (x + y) := DR.keep hbX DA21
  have DM22 : DR w22 s4 m := DR.keep hbX DM21
  have DP22 : DR w22 s5 (x * m) := DR.keep hbX DP21
  have DS22 : DR w22 s6 (x - y) := DR.keep hbX DS21
  clear DX21 DY21 DA21 DM21 DP21 DS21
  clear hbX
  have BW22 : Below w.heap.size w w22 := btr (by repeat (first | (with_reducible exact BW21) | (with_reducible refine bal ?_ _) | (with_reducible refine Below.drew ?_) | (with_reducible refine bdn ?_ _))) hb
  have A22 : Row4 w22 w.heap.size (.int .u64 (lb 0 x)) (.int .u64 (lb 1 x)) (.int .u64 (lb 2 x)) (.int .u64 (lb 3 x)) := Row4.keep hb (by repeat (first | (with_reducible exact A21) | (with_reducible refine Row4.alloc ?_ _) | (with_reducible refine Row4.drew ?_)))
  have B22 : Row4 w22 (w.heap.size + 1) (.int .u64 (lb 0 y)) (.int .u64 (lb 1 y)) (.int .u64 (lb 2 y)) (.int .u64 (lb 3 y)) := Row4.keep hb (by repeat (first | (with_reducible exact B21) | (with_reducible refine Row4.alloc ?_ _) | (with_reducible refine Row4.drew ?_)))
  have S22 : Row4 w22 w4.heap.size (.int .u64 (lb 0 sa)) (.int .u64 (lb 1 sa)) (.int .u64 (lb 2 sa)) (.int .u64 (lb 3 sa)) := Row4.keep hb (by repeat (first | (with_reducible exact S21) | (with_reducible refine Row4.alloc ?_ _) | (with_reducible refine Row4.drew ?_)))
  have E22 : Row4 w22 w6.heap.size (.int .u64 (lb 0 sd)) (.int .u64 (lb 1 sd)) (.int .u64 (lb 2 sd)) (.int .u64 (lb 3 sd)) := Row4.keep hb (by repeat (first | (with_reducible exact E21) | (with_reducible refine Row4.alloc ?_ _) | (with_reducible refine Row4.drew ?_)))
  have R22 : Row4 w22 w8.heap.size (.int .u64 (lb 0 sm)) (.int .u64 (lb 1 sm)) (.int .u64 (lb 2 sm)) (.int .u64 (lb 3 sm)) := Row4.keep hb (by repeat (first | (with_reducible exact R21) | (with_reducible refine Row4.alloc ?_ _) | (with_reducible refine Row4.drew ?_)))
  clear A21 B21 S21 E21 R21
  clear BW21
  clear hb
  go_wp2
  go_ret
  exact ⟨rfl, BW22⟩

theorem sums_any (x y : Nat) (m : Int) (hx : x < 2 ^ 256) (hy : y < 2 ^ 256) (h0 : 0 ≤ m) (h1 : m ≤ 18446744073709551615) (w : World) (hT : Tab w) :
    Calls Tryd.prog 3 #[N4 x, N4 y, .int .u64 m] w fun e w' => e = .returned (.bool true) ∧ Below w.heap.size w w' := by
  obtain ⟨m, rfl⟩ := Int.eq_ofNat_of_zero_le h0
  by_cases h : x < y
  · exact sums_less x y m hx hy (by omega) h w hT
  · exact sums_geq x y m hx hy (by omega) (by omega) w hT
end Go.Proofs.YtpnlmikjcpjjmaaDoor
