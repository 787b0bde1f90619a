/-
  The reference's pack: the contracts, for floats of 53 bits of digits and 11 of exponents. The reference's pack: the contracts, for floats of 24 bits of digits and 8 of exponents. The reference's pack: the contracts, for floats of 11 bits of digits and 5 of exponents.
-/
import Derived.Test.YtpgpodjmdflmeaaGreatDoorGC
section
namespace Go.Proofs.YtpgpodjmdflmeaaGreatDoor
open Go.RowKit Go.Shelf

set_option maxHeartbeats 2000000 in
set_option maxRecDepth 100000 in
theorem pack53_zero (g : Bool) (s : Value) (x : Nat) (e : Int) (w : World) (hs : DR w s x)
    (k1 : ∀ s' W, DR W s' x → Calls Tryz.prog 48 #[s'] W fun e w' => e = .returned (.int .i64 0) ∧ Below W.heap.size W w') :
    Calls Tryz.prog 52 #[.bool g, s, .int .i64 e, .int .i64 53, .int .i64 11] w fun e w' => e = .returned (.tuple #[.int .u64 (if g then 9223372036854775808 else 0), .bool true]) ∧ Below w.heap.size w w' := by
  have K1 := Lib.hid k1; clear k1
  have DX0 := hs; clear hs
  cases g
  all_goals
    go_enter Tryz.func52, Tryz.ntmps52
    go_wp2_with fail
    refine (K1.out _ _ (DR.keep (by repeat (first | (with_reducible exact Below.refl _ _) | (with_reducible refine bal ?_ _) | (with_reducible refine Below.drew ?_) | (with_reducible refine bdn ?_ _))) DX0)).mono ?_
    rintro e w1 ⟨rfl, hb⟩
    have hbX : Below w.heap.size w w1 := btr (by repeat (first | (with_reducible exact Below.refl _ _) | (with_reducible refine bal ?_ _) | (with_reducible refine Below.drew ?_) | (with_reducible refine bdn ?_ _))) hb
    have DX1 : DR w1 s x := DR.keep hbX DX0
    clear DX0
    clear hbX
    have BW1 : Below w.heap.size w w1 := btr (by repeat (first | (with_reducible exact Below.refl _ _) | (with_reducible refine bal ?_ _) | (with_reducible refine Below.drew ?_) | (with_reducible refine bdn ?_ _))) hb
    clear hb
    go_wp2
    first
      | exact bodyPost_ret (v := .tuple #[.int .u64 0, .bool true]) (by simp [results, Tryz.results52, go_sem]) rfl ⟨rfl, by repeat (first | (with_reducible exact BW1) | (with_reducible refine bal ?_ _) | (with_reducible refine Below.drew ?_) | (with_reducible refine bdn ?_ _))⟩
      | exact bodyPost_ret (v := .tuple #[.int .u64 9223372036854775808, .bool true]) (by simp [results, Tryz.results52, go_sem]) rfl ⟨rfl, by repeat (first | (with_reducible exact BW1) | (with_reducible refine bal ?_ _) | (with_reducible refine Below.drew ?_) | (with_reducible refine bdn ?_ _))⟩
set_option maxHeartbeats 2000000 in
set_option maxRecDepth 100000 in
theorem pack53_norm (g : Bool) (s : Value) (x o t L L0 : Nat) (e : Int) (r : Int) (w : World) (hs : DR w s x) (he0 : -2000 ≤ e) (he1 : e ≤ 2000) (ht0 : t ≤ 2000) (hL0 : ((L0 : Int) == 0) = false) (hL : L ≤ 2000) (hl : (L : Int) ≤ 53) (ht : e + t + L - 1 ≤ 1023) (ht2 : -1022 ≤ e + t + L - 1) (hle : -1074 ≤ e + t)
    (k1 : ∀ s' W, DR W s' x → Calls Tryz.prog 48 #[s'] W fun e w' => e = .returned (.int .i64 (L0 : Int)) ∧ Below W.heap.size W w')
    (k2 : ∀ s' W, DR W s' x → Calls Tryz.prog 85 #[s'] W fun e w' => e = .returned (.int .i64 (t : Int)) ∧ Below W.heap.size W w')
    (k3 : ∀ s' W, DR W s' x → Calls Tryz.prog 50 #[s', .int .i64 (-(t : Int))] W fun e w' => ∃ s2, e = .returned s2 ∧ DR w' s2 o ∧ Below W.heap.size W w')
    (k4 : ∀ s' W, DR W s' o → Calls Tryz.prog 48 #[s'] W fun e w' => e = .returned (.int .i64 (L : Int)) ∧ Below W.heap.size W w')
    (k5 : ∀ s' W, DR W s' o → Calls Tryz.prog 8 #[s'] W fun e w' => e = .returned (.tuple #[N4 o, .bool true]) ∧ Below W.heap.size W w')
    (hr : bits .or .u64 (bits .or .u64 (if g then 9223372036854775808 else 0) ((e + t + L - 1 + 1023) * 4503599627370496)) (bits .and .u64 (IntKind.u64.wrap (lb 0 o * 2 ^ (53 - L))) 4503599627370495) = r) :
    Calls Tryz.prog 52 #[.bool g, s, .int .i64 e, .int .i64 53, .int .i64 11] w fun e w' => e = .returned (.tuple #[.int .u64 r, .bool true]) ∧ Below w.heap.size w w' := by
  have K1 := Lib.hid k1; have K2 := Lib.hid k2; have K3 := Lib.hid k3; have K4 := Lib.hid k4; have K5 := Lib.hid k5; clear k1 k2 k3 k4 k5
  have HR := Lib.hid hr; clear hr
  have DX0 := hs; clear hs
  cases g
  all_goals
    simp only [if_true, if_false, Bool.false_eq_true] at HR
    go_enter Tryz.func52, Tryz.ntmps52
    go_wp2_with fail
    refine (K1.out _ _ (DR.keep (by repeat (first | (with_reducible exact Below.refl _ _) | (with_reducible refine bal ?_ _) | (with_reducible refine Below.drew ?_) | (with_reducible refine bdn ?_ _))) DX0)).mono ?_
    rintro e w1 ⟨rfl, hb⟩
    have hbX : Below w.heap.size w w1 := btr (by repeat (first | (with_reducible exact Below.refl _ _) | (with_reducible refine bal ?_ _) | (with_reducible refine Below.drew ?_) | (with_reducible refine bdn ?_ _))) hb
    have DX1 : DR w1 s x := DR.keep hbX DX0
    clear DX0
    clear hbX
    have BW1 : Below w.heap.size w w1 := btr (by repeat (first | (with_reducible exact Below.refl _ _) | (with_reducible refine bal ?_ _) | (with_reducible refine Below.drew ?_) | (with_reducible refine bdn ?_ _))) hb
    clear hb
    go_wp2_with fail
    refine (K2.out _ _ (DR.keep (by repeat (first | (with_reducible exact Below.refl _ _) | (with_reducible refine bal ?_ _) | (with_reducible refine Below.drew ?_) | (with_reducible refine bdn ?_ _))) DX1)).mono ?_
    rintro e w2 ⟨rfl, hb⟩
    have hbX : Below w1.heap.size w1 w2 := btr (by repeat (first | (with_reducible exact Below.refl _ _) | (with_reducible refine bal ?_ _) | (with_reducible refine Below.drew ?_) | (with_reducible refine bdn ?_ _))) hb
    have DX2 : DR w2 s x := DR.keep hbX DX1
    clear DX1
    clear hbX
    have BW2 : Below w.heap.size w w2 := btr (by repeat (first | (with_reducible exact BW1) | (with_reducible refine bal ?_ _) | (with_reducible refine Below.drew ?_) | (with_reducible refine bdn ?_ _))) hb
    clear BW1
    clear hb
    go_wp2_with fail
    refine (K2.out _ _ (DR.keep (by repeat (first | (with_reducible exact Below.refl _ _) | (with_reducible refine bal ?_ _) | (with_reducible refine Below.drew ?_) | (with_reducible refine bdn ?_ _))) DX2)).mono ?_
    rintro e w3 ⟨rfl, hb⟩
    have hbX : Below w2.heap.size w2 w3 := btr (by repeat (first | (with_reducible exact Below.refl _ _) | (with_reducible refine bal ?_ _) | (with_reducible refine Below.drew ?_) | (with_reducible refine bdn ?_ _))) hb
    have DX3 : DR w3 s x := DR.keep hbX DX2
    clear DX2
    clear hbX
    have BW3 : Below w.heap.size w w3 := btr (by repeat (first | (with_reducible exact BW2) | (with_reducible refine bal ?_ _) | (with_reducible refine Below.drew ?_) | (with_reducible refine bdn ?_ _))) hb
    clear BW2
    clear hb
    go_wp2_with fail
    refine (K3.out _ _ (DR.keep (by repeat (first | (with_reducible exact Below.refl _ _) | (with_reducible refine bal ?_ _) | (with_reducible refine Below.drew ?_) | (with_reducible refine bdn ?_ _))) DX3)).mono ?_
    rintro e w4 ⟨s2, rfl, hr, hb⟩
    have hbX : Below w3.heap.size w3 w4 := btr (by repeat (first | (with_reducible exact Below.refl _ _) | (with_reducible refine bal ?_ _) | (with_reducible refine Below.drew ?_) | (with_reducible refine bdn ?_ _))) hb
    have DX4 : DR w4 s x := DR.keep hbX DX3
    clear DX3
    clear hbX
    have DO4 : DR w4 s2 o := hr
    clear hr
    have BW4 : Below w.heap.size w w4 := btr (by repeat (first | (with_reducible exact BW3) | (with_reducible refine bal ?_ _) | (with_reducible refine Below.drew ?_) | (with_reducible refine bdn ?_ _))) hb
    clear BW3
    clear hb
    go_wp2_with fail
    refine (K4.out _ _ (DR.keep (by repeat (first | (with_reducible exact Below.refl _ _) | (with_reducible refine bal ?_ _) | (with_reducible refine Below.drew ?_) | (with_reducible refine bdn ?_ _))) DO4)).mono ?_
    rintro e w5 ⟨rfl, hb⟩
    have hbX : Below w4.heap.size w4 w5 := btr (by repeat (first | (with_reducible exact Below.refl _ _) | (with_reducible refine bal ?_ _) | (with_reducible refine Below.drew ?_) | (with_reducible refine bdn ?_ _))) hb
    have DX5 : DR w5 s x := DR.keep hbX DX4
    have DO5 : DR w5 s2 o := DR.keep hbX DO4
    clear DX4 DO4
    clear hbX
    have BW5 : Below w.heap.size w w5 := btr (by repeat (first | (with_reducible exact BW4) | (with_reducible refine bal ?_ _) | (with_reducible refine Below.drew ?_) | (with_reducible refine bdn ?_ _))) hb
    clear BW4
    clear hb
    go_wp2_with fail
    refine (K4.out _ _ (DR.keep (by repeat (first | (with_reducible exact Below.refl _ _) | (with_reducible refine bal ?_ _) | (with_reducible refine Below.drew ?_) | (with_reducible refine bdn ?_ _))) DO5)).mono ?_
    rintro e w6 ⟨rfl, hb⟩
    have hbX : Below w5.heap.size w5 w6 := btr (by repeat (first | (with_reducible exact Below.refl _ _) | (with_reducible refine bal ?_ _) | (with_reducible refine Below.drew ?_) | (with_reducible refine bdn ?_ _))) hb
    have DX6 : DR w6 s x := DR.keep hbX DX5
    have DO6 : DR w6 s2 o := DR.keep hbX DO5
    clear DX5 DO5
    clear hbX
    have BW6 : Below w.heap.size w w6 := btr (by repeat (first | (with_reducible exact BW5) | (with_reducible refine bal ?_ _) | (with_reducible refine Below.drew ?_) | (with_reducible refine bdn ?_ _))) hb
    clear BW5
    clear hb
    go_wp2_with fail
    refine (K5.out _ _ (DR.keep (by repeat (first | (with_reducible exact Below.refl _ _) | (with_reducible refine bal ?_ _) | (with_reducible refine Below.drew ?_) | (with_reducible refine bdn ?_ _))) DO6)).mono ?_
    rintro e w7 ⟨rfl, hb⟩
    have hbX : Below w6.heap.size w6 w7 := btr (by repeat (first | (with_reducible exact Below.refl _ _) | (with_reducible refine bal ?_ _) | (with_reducible refine Below.drew ?_) | (with_reducible refine bdn ?_ _))) hb
    have DX7 : DR w7 s x := DR.keep hbX DX6
    have DO7 : DR w7 s2 o := DR.keep hbX DO6
    clear DX6 DO6
    clear hbX
    have BW7 : Below w.heap.size w w7 := btr (by repeat (first | (with_reducible exact BW6) | (with_reducible refine bal ?_ _) | (with_reducible refine Below.drew ?_) | (with_reducible refine bdn ?_ _))) hb
    clear BW6
    clear hb
    go_upto_region 14 with (fail)
    go_name_world w8 hw8
    have BW8 : Below w.heap.size w w8 := by rw [← hw8]; repeat (first | (with_reducible exact BW7) | (with_reducible refine bal ?_ _) | (with_reducible refine Below.drew ?_) | (with_reducible refine bdn ?_ _))
    have hbX : Below w7.heap.size w7 w8 := by rw [← hw8]; repeat (first | (with_reducible exact Below.refl _ _) | (with_reducible refine bal ?_ _) | (with_reducible refine Below.drew ?_) | (with_reducible refine bdn ?_ _))
    have DX8 : DR w8 s x := DR.keep hbX DX7
    have DO8 : DR w8 s2 o := DR.keep hbX DO7
    clear hbX DX7 DO7
    have N8 : Row4 w8 w7.heap.size (.int .u64 (lb 0 o)) (.int .u64 (lb 1 o)) (.int .u64 (lb 2 o)) (.int .u64 (lb 3 o)) := by rw [← hw8]; exact (by repeat (first | (with_reducible exact Row4.new _ _ _ _ _) | ((with_reducible refine Row4.new' _ ?_ _ _ _ _); (simp; done)) | (with_reducible refine Row4.alloc ?_ _) | (with_reducible refine Row4.drew ?_)))
    clear BW7
    clear hw8
    obtain ⟨Nc0, Nc1, Nc2, Nc3⟩ := N8.four
    obtain ⟨Nf0, Nf1, Nf2, Nf3⟩ := N8.free4
    go_wp2_with fail
    refine (K4.out _ _ (DR.keep (by repeat (first | (with_reducible exact Below.refl _ _) | (with_reducible refine bal ?_ _) | (with_reducible refine Below.drew ?_) | (with_reducible refine bdn ?_ _))) DO8)).mono ?_
    rintro e w9 ⟨rfl, hb⟩
    have hbX : Below w8.heap.size w8 w9 := btr (by repeat (first | (with_reducible exact Below.refl _ _) | (with_reducible refine bal ?_ _) | (with_reducible refine Below.drew ?_) | (with_reducible refine bdn ?_ _))) hb
    have DX9 : DR w9 s x := DR.keep hbX DX8
    have DO9 : DR w9 s2 o := DR.keep hbX DO8
    clear DX8 DO8
    clear hbX
    have BW9 : Below w.heap.size w w9 := btr (by repeat (first | (with_reducible exact BW8) | (with_reducible refine bal ?_ _) | (with_reducible refine Below.drew ?_) | (with_reducible refine bdn ?_ _))) hb
    have N9 : Row4 w9 w7.heap.size (.int .u64 (lb 0 o)) (.int .u64 (lb 1 o)) (.int .u64 (lb 2 o)) (.int .u64 (lb 3 o)) := Row4.keep hb (by repeat (first | (with_reducible exact N8) | (with_reducible refine Row4.alloc ?_ _) | (with_reducible refine Row4.drew ?_)))
    clear N8
    clear BW8
    clear hb
    have hr := HR.out
    go_wp2
    first
      | exact bodyPost_ret (v := .tuple #[.int .u64 r, .bool true]) (by simp [results, Tryz.results52, go_sem]) rfl ⟨rfl, by repeat (first | (with_reducible exact BW9) | (with_reducible refine bal ?_ _) | (with_reducible refine Below.drew ?_) | (with_reducible refine bdn ?_ _))⟩
set_option maxHeartbeats 2000000 in
set_option maxRecDepth 100000 in
theorem pack53_sub (g : Bool) (s : Value) (x o t L L0 : Nat) (e : Int) (r : Int) (w : World) (hs : DR w s x) (he0 : -2000 ≤ e) (he1 : e ≤ 2000) (ht0 : t ≤ 2000) (hL0 : ((L0 : Int) == 0) = false) (hL : L ≤ 2000) (hl : (L : Int) ≤ 53) (ht : e + t + L - 1 < -1022) (hle : -1074 ≤ e + t)
    (k1 : ∀ s' W, DR W s' x → Calls Tryz.prog 48 #[s'] W fun e w' => e = .returned (.int .i64 (L0 : Int)) ∧ Below W.heap.size W w')
    (k2 : ∀ s' W, DR W s' x → Calls Tryz.prog 85 #[s'] W fun e w' => e = .returned (.int .i64 (t : Int)) ∧ Below W.heap.size W w')
    (k3 : ∀ s' W, DR W s' x → Calls Tryz.prog 50 #[s', .int .i64 (-(t : Int))] W fun e w' => ∃ s2, e = .returned s2 ∧ DR w' s2 o ∧ Below W.heap.size W w')
    (k4 : ∀ s' W, DR W s' o → Calls Tryz.prog 48 #[s'] W fun e w' => e = .returned (.int .i64 (L : Int)) ∧ Below W.heap.size W w')
    (k5 : ∀ s' W, DR W s' o → Calls Tryz.prog 8 #[s'] W fun e w' => e = .returned (.tuple #[N4 o, .bool true]) ∧ Below W.heap.size W w')
    (hr : bits .or .u64 (if g then 9223372036854775808 else 0) (IntKind.u64.wrap (lb 0 o * 2 ^ (e + t + 1074).toNat)) = r) :
    Calls Tryz.prog 52 #[.bool g, s, .int .i64 e, .int .i64 53, .int .i64 11] w fun e w' => e = .returned (.tuple #[.int .u64 r, .bool true]) ∧ Below w.heap.size w w' := by
  have K1 := Lib.hid k1; have K2 := Lib.hid k2; have K3 := Lib.hid k3; have K4 := Lib.hid k4; have K5 := Lib.hid k5; clear k1 k2 k3 k4 k5
  have HR := Lib.hid hr; clear hr
  have DX0 := hs; clear hs
  cases g
  all_goals
    simp only [if_true, if_false, Bool.false_eq_true] at HR
    go_enter Tryz.func52, Tryz.ntmps52
    go_wp2_with fail
    refine (K1.out _ _ (DR.keep (by repeat (first | (with_reducible exact Below.refl _ _) | (with_reducible refine bal ?_ _) | (with_reducible refine Below.drew ?_) | (with_reducible refine bdn ?_ _))) DX0)).mono ?_
    rintro e w1 ⟨rfl, hb⟩
    have hbX : Below w.heap.size w w1 := btr (by repeat (first | (with_reducible exact Below.refl _ _) | (with_reducible refine bal ?_ _) | (with_reducible refine Below.drew ?_) | (with_reducible refine bdn ?_ _))) hb
    have DX1 : DR w1 s x := DR.keep hbX DX0
    clear DX0
    clear hbX
    have BW1 : Below w.heap.size w w1 := btr (by repeat (first | (with_reducible exact Below.refl _ _) | (with_reducible refine bal ?_ _) | (with_reducible refine Below.drew ?_) | (with_reducible refine bdn ?_ _))) hb
    clear hb
    go_wp2_with fail
    refine (K2.out _ _ (DR.keep (by repeat (first | (with_reducible exact Below.refl _ _) | (with_reducible refine bal ?_ _) | (with_reducible refine Below.drew ?_) | (with_reducible refine bdn ?_ _))) DX1)).mono ?_
    rintro e w2 ⟨rfl, hb⟩
    have hbX : Below w1.heap.size w1 w2 := btr (by repeat (first | (with_reducible exact Below.refl _ _) | (with_reducible refine bal ?_ _) | (with_reducible refine Below.drew ?_) | (with_reducible refine bdn ?_ _))) hb
    have DX2 : DR w2 s x := DR.keep hbX DX1
    clear DX1
    clear hbX
    have BW2 : Below w.heap.size w w2 := btr (by repeat (first | (with_reducible exact BW1) | (with_reducible refine bal ?_ _) | (with_reducible refine Below.drew ?_) | (with_reducible refine bdn ?_ _))) hb
    clear BW1
    clear hb
    go_wp2_with fail
    refine (K2.out _ _ (DR.keep (by repeat (first | (with_reducible exact Below.refl _ _) | (with_reducible refine bal ?_ _) | (with_reducible refine Below.drew ?_) | (with_reducible refine bdn ?_ _))) DX2)).mono ?_
    rintro e w3 ⟨rfl, hb⟩
    have hbX : Below w2.heap.size w2 w3 := btr (by repeat (first | (with_reducible exact Below.refl _ _) | (with_reducible refine bal ?_ _) | (with_reducible refine Below.drew ?_) | (with_reducible refine bdn ?_ _))) hb
    have DX3 : DR w3 s x := DR.keep hbX DX2
    clear DX2
    clear hbX
    have BW3 : Below w.heap.size w w3 := btr (by repeat (first | (with_reducible exact BW2) | (with_reducible refine bal ?_ _) | (with_reducible refine Below.drew ?_) | (with_reducible refine bdn ?_ _))) hb
    clear BW2
    clear hb
    go_wp2_with fail
    refine (K3.out _ _ (DR.keep (by repeat (first | (with_reducible exact Below.refl _ _) | (with_reducible refine bal ?_ _) | (with_reducible refine Below.drew ?_) | (with_reducible refine bdn ?_ _))) DX3)).mono ?_
    rintro e w4 ⟨s2, rfl, hr, hb⟩
    have hbX : Below w3.heap.size w3 w4 := btr (by repeat (first | (with_reducible exact Below.refl _ _) | (with_reducible refine bal ?_ _) | (with_reducible refine Below.drew ?_) | (with_reducible refine bdn ?_ _))) hb
    have DX4 : DR w4 s x := DR.keep hbX DX3
    clear DX3
    clear hbX
    have DO4 : DR w4 s2 o := hr
    clear hr
    have BW4 : Below w.heap.size w w4 := btr (by repeat (first | (with_reducible exact BW3) | (with_reducible refine bal ?_ _) | (with_reducible refine Below.drew ?_) | (with_reducible refine bdn ?_ _))) hb
    clear BW3
    clear hb
    go_wp2_with fail
    refine (K4.out _ _ (DR.keep (by repeat (first | (with_reducible exact Below.refl _ _) | (with_reducible refine bal ?_ _) | (with_reducible refine Below.drew ?_) | (with_reducible refine bdn ?_ _))) DO4)).mono ?_
    rintro e w5 ⟨rfl, hb⟩
    have hbX : Below w4.heap.size w4 w5 := btr (by repeat (first | (with_reducible exact Below.refl _ _) | (with_reducible refine bal ?_ _) | (with_reducible refine Below.drew ?_) | (with_reducible refine bdn ?_ _))) hb
    have DX5 : DR w5 s x := DR.keep hbX DX4
    have DO5 : DR w5 s2 o := DR.keep hbX DO4
    clear DX4 DO4
    clear hbX
    have BW5 : Below w.heap.size w w5 := btr (by repeat (first | (with_reducible exact BW4) | (with_reducible refine bal ?_ _) | (with_reducible refine Below.drew ?_) | (with_reducible refine bdn ?_ _))) hb
    clear BW4
    clear hb
    go_wp2_with fail
    refine (K4.out _ _ (DR.keep (by repeat (first | (with_reducible exact Below.refl _ _) | (with_reducible refine bal ?_ _) | (with_reducible refine Below.drew ?_) | (with_reducible refine bdn ?_ _))) DO5)).mono ?_
    rintro e w6 ⟨rfl, hb⟩
    have hbX : Below w5.heap.size w5 w6 := btr (by repeat (first | (with_reducible exact Below.refl _ _) | (with_reducible refine bal ?_ _) | (with_reducible refine Below.drew ?_) | (with_reducible refine bdn ?_ _))) hb
    have DX6 : DR w6 s x := DR.keep hbX DX5
    have DO6 : DR w6 s2 o := DR.keep hbX DO5
    clear DX5 DO5
    clear hbX
    have BW6 : Below w.heap.size w w6 := btr (by repeat (first | (with_reducible exact BW5) | (with_reducible refine bal ?_ _) | (with_reducible refine Below.drew ?_) | (with_reducible refine bdn ?_ _))) hb
    clear BW5
    clear hb
    go_wp2_with fail
    refine (K5.out _ _ (DR.keep (by repeat (first | (with_reducible exact Below.refl _ _) | (with_reducible refine bal ?_ _) | (with_reducible refine Below.drew ?_) | (with_reducible refine bdn ?_ _))) DO6)).mono ?_
    rintro e w7 ⟨rfl, hb⟩
    have hbX : Below w6.heap.size w6 w7 := btr (by repeat (first | (with_reducible exact Below.refl _ _) | (with_reducible refine bal ?_ _) | (with_reducible refine Below.drew ?_) | (with_reducible refine bdn ?_ _))) hb
    have DX7 : DR w7 s x := DR.keep hbX DX6
    have DO7 : DR w7 s2 o := DR.keep hbX DO6
    clear DX6 DO6
    clear hbX
    have BW7 : Below w.heap.size w w7 := btr (by repeat (first | (with_reducible exact BW6) | (with_reducible refine bal ?_ _) | (with_reducible refine Below.drew ?_) | (with_reducible refine bdn ?_ _))) hb
    clear BW6
    clear hb
    go_upto_region 14 with (fail)
    go_name_world w8 hw8
    have BW8 : Below w.heap.size w w8 := by rw [← hw8]; repeat (first | (with_reducible exact BW7) | (with_reducible refine bal ?_ _) | (with_reducible refine Below.drew ?_) | (with_reducible refine bdn ?_ _))
    have hbX : Below w7.heap.size w7 w8 := by rw [← hw8]; repeat (first | (with_reducible exact Below.refl _ _) | (with_reducible refine bal ?_ _) | (with_reducible refine Below.drew ?_) | (with_reducible refine bdn ?_ _))
    have DX8 : DR w8 s x := DR.keep hbX DX7
    have DO8 : DR w8 s2 o := DR.keep hbX DO7
    clear hbX DX7 DO7
    have N8 : Row4 w8 w7.heap.size (.int .u64 (lb 0 o)) (.int .u64 (lb 1 o)) (.int .u64 (lb 2 o)) (.int .u64 (lb 3 o)) := by rw [← hw8]; exact (by repeat (first | (with_reducible exact Row4.new _ _ _ _ _) | ((with_reducible refine Row4.new' _ ?_ _ _ _ _); (simp; done)) | (with_reducible refine Row4.alloc ?_ _) | (with_reducible refine Row4.drew ?_)))
    clear BW7
    clear hw8
    obtain ⟨Nc0, Nc1, Nc2, Nc3⟩ := N8.four
    obtain ⟨Nf0, Nf1, Nf2, Nf3⟩ := N8.free4
    have hr := HR.out
    go_wp2
    first
      | exact bodyPost_ret (v := .tuple #[.int .u64 r, .bool true]) (by simp [results, Tryz.results52, go_sem]) rfl ⟨rfl, by repeat (first | (with_reducible exact BW8) | (with_reducible refine bal ?_ _) | (with_reducible refine Below.drew ?_) | (with_reducible refine bdn ?_ _))⟩
set_option maxHeartbeats 2000000 in
set_option maxRecDepth 100000 in
theorem pack53_long (g : Bool) (s : Value) (x o t L L0 : Nat) (e : Int) (w : World) (hs : DR w s x) (he0 : -2000 ≤ e) (he1 : e ≤ 2000) (ht0 : t ≤ 2000) (hL0 : ((L0 : Int) == 0) = false) (hL : L ≤ 2000) (hl : 53 < (L : Int))
    (k1 : ∀ s' W, DR W s' x → Calls Tryz.prog 48 #[s'] W fun e w' => e = .returned (.int .i64 (L0 : Int)) ∧ Below W.heap.size W w')
    (k2 : ∀ s' W, DR W s' x → Calls Tryz.prog 85 #[s'] W fun e w' => e = .returned (.int .i64 (t : Int)) ∧ Below W.heap.size W w')
    (k3 : ∀ s' W, DR W s' x → Calls Tryz.prog 50 #[s', .int .i64 (-(t : Int))] W fun e w' => ∃ s2, e = .returned s2 ∧ DR w' s2 o ∧ Below W.heap.size W w')
    (k4 : ∀ s' W, DR W s' o → Calls Tryz.prog 48 #[s'] W fun e w' => e = .returned (.int .i64 (L : Int)) ∧ Below W.heap.size W w') :
    Calls Tryz.prog 52 #[.bool g, s, .int .i64 e, .int .i64 53, .int .i64 11] w fun e w' => e = .returned (.tuple #[.int .u64 0, .bool false]) ∧ Below w.heap.size w w' := by
  have K1 := Lib.hid k1; have K2 := Lib.hid k2; have K3 := Lib.hid k3; have K4 := Lib.hid k4; clear k1 k2 k3 k4
  have DX0 := hs; clear hs
  cases g
  all_goals
    go_enter Tryz.func52, Tryz.ntmps52
    go_wp2_with fail
    refine (K1.out _ _ (DR.keep (by repeat (first | (with_reducible exact Below.refl _ _) | (with_reducible refine bal ?_ _) | (with_reducible refine Below.drew ?_) | (with_reducible refine bdn ?_ _))) DX0)).mono ?_
    rintro e w1 ⟨rfl, hb⟩
    have hbX : Below w.heap.size w w1 := btr (by repeat (first | (with_reducible exact Below.refl _ _) | (with_reducible refine bal ?_ _) | (with_reducible refine Below.drew ?_) | (with_reducible refine bdn ?_ _))) hb
    have DX1 : DR w1 s x := DR.keep hbX DX0
    clear DX0
    clear hbX
    have BW1 : Below w.heap.size w w1 := btr (by repeat (first | (with_reducible exact Below.refl _ _) | (with_reducible refine bal ?_ _) | (with_reducible refine Below.drew ?_) | (with_reducible refine bdn ?_ _))) hb
    clear hb
    go_wp2_with fail
    refine (K2.out _ _ (DR.keep (by repeat (first | (with_reducible exact Below.refl _ _) | (with_reducible refine bal ?_ _) | (with_reducible refine Below.drew ?_) | (with_reducible refine bdn ?_ _))) DX1)).mono ?_
    rintro e w2 ⟨rfl, hb⟩
    have hbX : Below w1.heap.size w1 w2 := btr (by repeat (first | (with_reducible exact Below.refl _ _) | (with_reducible refine bal ?_ _) | (with_reducible refine Below.drew ?_) | (with_reducible refine bdn ?_ _))) hb
    have DX2 : DR w2 s x := DR.keep hbX DX1
    clear DX1
    clear hbX
    have BW2 : Below w.heap.size w w2 := btr (by repeat (first | (with_reducible exact BW1) | (with_reducible refine bal ?_ _) | (with_reducible refine Below.drew ?_) | (with_reducible refine bdn ?_ _))) hb
    clear BW1
    clear hb
    go_wp2_with fail
    refine (K2.out _ _ (DR.keep (by repeat (first | (with_reducible exact Below.refl _ _) | (with_reducible refine bal ?_ _) | (with_reducible refine Below.drew ?_) | (with_reducible refine bdn ?_ _))) DX2)).mono ?_
    rintro e w3 ⟨rfl, hb⟩
    have hbX : Below w2.heap.size w2 w3 := btr (by repeat (first | (with_reducible exact Below.refl _ _) | (with_reducible refine bal ?_ _) | (with_reducible refine Below.drew ?_) | (with_reducible refine bdn ?_ _))) hb
    have DX3 : DR w3 s x := DR.keep hbX DX2
    clear DX2
    clear hbX
    have BW3 : Below w.heap.size w w3 := btr (by repeat (first | (with_reducible exact BW2) | (with_reducible refine bal ?_ _) | (with_reducible refine Below.drew ?_) | (with_reducible refine bdn ?_ _))) hb
    clear BW2
    clear hb
    go_wp2_with fail
    refine (K3.out _ _ (DR.keep (by repeat (first | (with_reducible exact Below.refl _ _) | (with_reducible refine bal ?_ _) | (with_reducible refine Below.drew ?_) | (with_reducible refine bdn ?_ _))) DX3)).mono ?_
    rintro e w4 ⟨s2, rfl, hr, hb⟩
    have hbX : Below w3.heap.size w3 w4 := btr (by repeat (first | (with_reducible exact Below.refl _ _) | (with_reducible refine bal ?_ _) | (with_reducible refine Below.drew ?_) | (with_reducible refine bdn ?_ _))) hb
    have DX4 : DR w4 s x := DR.keep hbX DX3
    clear DX3
    clear hbX
    have DO4 : DR w4 s2 o := hr
    clear hr
    have BW4 : Below w.heap.size w w4 := btr (by repeat (first | (with_reducible exact BW3) | (with_reducible refine bal ?_ _) | (with_reducible refine Below.drew ?_) | (with_reducible refine bdn ?_ _))) hb
    clear BW3
    clear hb
    go_wp2_with fail
    refine (K4.out _ _ (DR.keep (by repeat (first | (with_reducible exact Below.refl _ _) | (with_reducible refine bal ?_ _) | (with_reducible refine Below.drew ?_) | (with_reducible refine bdn ?_ _))) DO4)).mono ?_
    rintro e w5 ⟨rfl, hb⟩
    have hbX : Below w4.heap.size w4 w5 := btr (by repeat (first | (with_reducible exact Below.refl _ _) | (with_reducible refine bal ?_ _) | (with_reducible refine Below.drew ?_) | (with_reducible refine bdn ?_ _))) hb
    have DX5 : DR w5 s x := DR.keep hbX DX4
    have DO5 : DR w5 s2 o := DR.keep hbX DO4
    clear DX4 DO4
    clear hbX
    have BW5 : Below w.heap.size w w5 := btr (by repeat (first | (with_reducible exact BW4) | (with_reducible refine bal ?_ _) | (with_reducible refine Below.drew ?_) | (with_reducible refine bdn ?_ _))) hb
    clear BW4
    clear hb
    go_wp2_with fail
    refine (K4.out _ _ (DR.keep (by repeat (first | (with_reducible exact Below.refl _ _) | (with_reducible refine bal ?_ _) | (with_reducible refine Below.drew ?_) | (with_reducible refine bdn ?_ _))) DO5)).mono ?_
    rintro e w6 ⟨rfl, hb⟩
    have hbX : Below w5.heap.size w5 w6 := btr (by repeat (first | (with_reducible exact Below.refl _ _) | (with_reducible refine bal ?_ _) | (with_reducible refine Below.drew ?_) | (with_reducible refine bdn ?_ _))) hb
    have DX6 : DR w6 s x := DR.keep hbX DX5
    have DO6 : DR w6 s2 o := DR.keep hbX DO5
    clear DX5 DO5
    clear hbX
    have BW6 : Below w.heap.size w w6 := btr (by repeat (first | (with_reducible exact BW5) | (with_reducible refine bal ?_ _) | (with_reducible refine Below.drew ?_) | (with_reducible refine bdn ?_ _))) hb
    clear BW5
    clear hb
    go_wp2
    first
      | exact bodyPost_ret (v := .tuple #[.int .u64 0, .bool false]) (by simp [results, Tryz.results52, go_sem]) rfl ⟨rfl, by repeat (first | (with_reducible exact BW6) | (with_reducible refine bal ?_ _) | (with_reducible refine Below.drew ?_) | (with_reducible refine bdn ?_ _))⟩
set_option maxHeartbeats 2000000 in
set_option maxRecDepth 100000 in
theorem pack53_top (g : Bool) (s : Value) (x o t L L0 : Nat) (e : Int) (w : World) (hs : DR w s x) (he0 : -2000 ≤ e) (he1 : e ≤ 2000) (ht0 : t ≤ 2000) (hL0 : ((L0 : Int) == 0) = false) (hL : L ≤ 2000) (hl : (L : Int) ≤ 53) (ht : 1023 < e + t + L - 1)
    (k1 : ∀ s' W, DR W s' x → Calls Tryz.prog 48 #[s'] W fun e w' => e = .returned (.int .i64 (L0 : Int)) ∧ Below W.heap.size W w')
    (k2 : ∀ s' W, DR W s' x → Calls Tryz.prog 85 #[s'] W fun e w' => e = .returned (.int .i64 (t : Int)) ∧ Below W.heap.size W w')
    (k3 : ∀ s' W, DR W s' x → Calls Tryz.prog 50 #[s', .int .i64 (-(t : Int))] W fun e w' => ∃ s2, e = .returned s2 ∧ DR w' s2 o ∧ Below W.heap.size W w')
    (k4 : ∀ s' W, DR W s' o → Calls Tryz.prog 48 #[s'] W fun e w' => e = .returned (.int .i64 (L : Int)) ∧ Below W.heap.size W w') :
    Calls Tryz.prog 52 #[.bool g, s, .int .i64 e, .int .i64 53, .int .i64 11] w fun e w' => e = .returned (.tuple #[.int .u64 0, .bool false]) ∧ Below w.heap.size w w' := by
  have K1 := Lib.hid k1; have K2 := Lib.hid k2; have K3 := Lib.hid k3; have K4 := Lib.hid k4; clear k1 k2 k3 k4
  have DX0 := hs; clear hs
  cases g
  all_goals
    go_enter Tryz.func52, Tryz.ntmps52
    go_wp2_with fail
    refine (K1.out _ _ (DR.keep (by repeat (first | (with_reducible exact Below.refl _ _) | (with_reducible refine bal ?_ _) | (with_reducible refine Below.drew ?_) | (with_reducible refine bdn ?_ _))) DX0)).mono ?_
    rintro e w1 ⟨rfl, hb⟩
    have hbX : Below w.heap.size w w1 := btr (by repeat (first | (with_reducible exact Below.refl _ _) | (with_reducible refine bal ?_ _) | (with_reducible refine Below.drew ?_) | (with_reducible refine bdn ?_ _))) hb
    have DX1 : DR w1 s x := DR.keep hbX DX0
    clear DX0
    clear hbX
    have BW1 : Below w.heap.size w w1 := btr (by repeat (first | (with_reducible exact Below.refl _ _) | (with_reducible refine bal ?_ _) | (with_reducible refine Below.drew ?_) | (with_reducible refine bdn ?_ _))) hb
    clear hb
    go_wp2_with fail
    refine (K2.out _ _ (DR.keep (by repeat (first | (with_reducible exact Below.refl _ _) | (with_reducible refine bal ?_ _) | (with_reducible refine Below.drew ?_) | (with_reducible refine bdn ?_ _))) DX1)).mono ?_
    rintro e w2 ⟨rfl, hb⟩
    have hbX : Below w1.heap.size w1 w2 := btr (by repeat (first | (with_reducible exact Below.refl _ _) | (with_reducible refine bal ?_ _) | (with_reducible refine Below.drew ?_) | (with_reducible refine bdn ?_ _))) hb
    have DX2 : DR w2 s x := DR.keep hbX DX1
    clear DX1
    clear hbX
    have BW2 : Below w.heap.size w w2 := btr (by repeat (first | (with_reducible exact BW1) | (with_reducible refine bal ?_ _) | (with_reducible refine Below.drew ?_) | (with_reducible refine bdn ?_ _))) hb
    clear BW1
    clear hb
    go_wp2_with fail
    refine (K2.out _ _ (DR.keep (by repeat (first | (with_reducible exact Below.refl _ _) | (with_reducible refine bal ?_ _) | (with_reducible refine Below.drew ?_) | (with_reducible refine bdn ?_ _))) DX2)).mono ?_
    rintro e w3 ⟨rfl, hb⟩
    have hbX : Below w2.heap.size w2 w3 := btr (by repeat (first | (with_reducible exact Below.refl _ _) | (with_reducible refine bal ?_ _) | (with_reducible refine Below.drew ?_) | (with_reducible refine bdn ?_ _))) hb
    have DX3 : DR w3 s x := DR.keep hbX DX2
    clear DX2
    clear hbX
    have BW3 : Below w.heap.size w w3 := btr (by repeat (first | (with_reducible exact BW2) | (with_reducible refine bal ?_ _) | (with_reducible refine Below.drew ?_) | (with_reducible refine bdn ?_ _))) hb
    clear BW2
    clear hb
    go_wp2_with fail
    refine (K3.out _ _ (DR.keep (by repeat (first | (with_reducible exact Below.refl _ _) | (with_reducible refine bal ?_ _) | (with_reducible refine Below.drew ?_) | (with_reducible refine bdn ?_ _))) DX3)).mono ?_
    rintro e w4 ⟨s2, rfl, hr, hb⟩
    have hbX : Below w3.heap.size w3 w4 := btr (by repeat (first | (with_reducible exact Below.refl _ _) | (with_reducible refine bal ?_ _) | (with_reducible refine Below.drew ?_) | (with_reducible refine bdn ?_ _))) hb
    have DX4 : DR w4 s x := DR.keep hbX DX3
    clear DX3
    clear hbX
    have DO4 : DR w4 s2 o := hr
    clear hr
    have BW4 : Below w.heap.size w w4 := btr (by repeat (first | (with_reducible exact BW3) | (with_reducible refine bal ?_ _) | (with_reducible refine Below.drew ?_) | (with_reducible refine bdn ?_ _))) hb
    clear BW3
    clear hb
    go_wp2_with fail
    refine (K4.out _ _ (DR.keep (by repeat (first | (with_reducible exact Below.refl _ _) | (with_reducible refine bal ?_ _) | (with_reducible refine Below.drew ?_) | (with_reducible refine bdn ?_ _))) DO4)).mono ?_
    rintro e w5 ⟨rfl, hb⟩
    have hbX : Below w4.heap.size w4 w5 := btr (by repeat (first | (with_reducible exact Below.refl _ _) | (with_reducible refine bal ?_ _) | (with_reducible refine Below.drew ?_) | (with_reducible refine bdn ?_ _))) hb
    have DX5 : DR w5 s x := DR.keep hbX DX4
    have DO5 : DR w5 s2 o := DR.keep hbX DO4
    clear DX4 DO4
    clear hbX
    have BW5 : Below w.heap.size w w5 := btr (by repeat (first | (with_reducible exact BW4) | (with_reducible refine bal ?_ _) | (with_reducible refine Below.drew ?_) | (with_reducible refine bdn ?_ _))) hb
    clear BW4
    clear hb
    go_wp2_with fail
    refine (K4.out _ _ (DR.keep (by repeat (first | (with_reducible exact Below.refl _ _) | (with_reducible refine bal ?_ _) | (with_reducible refine Below.drew ?_) | (with_reducible refine bdn ?_ _))) DO5)).mono ?_
    rintro e w6 ⟨rfl, hb⟩
    have hbX : Below w5.heap.size w5 w6 := btr (by repeat (first | (with_reducible exact Below.refl _ _) | (with_reducible refine bal ?_ _) | (with_reducible refine Below.drew ?_) | (with_reducible refine bdn ?_ _))) hb
    have DX6 : DR w6 s x := DR.keep hbX DX5
    have DO6 : DR w6 s2 o := DR.keep hbX DO5
    clear DX5 DO5
    clear hbX
    have BW6 : Below w.heap.size w w6 := btr (by repeat (first | (with_reducible exact BW5) | (with_reducible refine bal ?_ _) | (with_reducible refine Below.drew ?_) | (with_reducible refine bdn ?_ _))) hb
    clear BW5
    clear hb
    go_wp2
    first
      | exact bodyPost_ret (v := .tuple #[.int .u64 0, .bool false]) (by simp [results, Tryz.results52, go_sem]) rfl ⟨rfl, by repeat (first | (with_reducible exact BW6) | (with_reducible refine bal ?_ _) | (with_reducible refine Below.drew ?_) | (with_reducible refine bdn ?_ _))⟩
set_option maxHeartbeats 2000000 in
set_option maxRecDepth 100000 in
theorem pack53_low (g : Bool) (s : Value) (x o t L L0 : Nat) (e : Int) (w : World) (hs : DR w s x) (he0 : -2000 ≤ e) (he1 : e ≤ 2000) (ht0 : t ≤ 2000) (hL0 : ((L0 : Int) == 0) = false) (hL : L ≤ 2000) (hl : (L : Int) ≤ 53) (ht : e + t + L - 1 ≤ 1023) (hle : e + t < -1074)
    (k1 : ∀ s' W, DR W s' x → Calls Tryz.prog 48 #[s'] W fun e w' => e = .returned (.int .i64 (L0 : Int)) ∧ Below W.heap.size W w')
    (k2 : ∀ s' W, DR W s' x → Calls Tryz.prog 85 #[s'] W fun e w' => e = .returned (.int .i64 (t : Int)) ∧ Below W.heap.size W w')
    (k3 : ∀ s' W, DR W s' x → Calls Tryz.prog 50 #[s', .int .i64 (-(t : Int))] W fun e w' => ∃ s2, e = .returned s2 ∧ DR w' s2 o ∧ Below W.heap.size W w')
    (k4 : ∀ s' W, DR W s' o → Calls Tryz.prog 48 #[s'] W fun e w' => e = .returned (.int .i64 (L : Int)) ∧ Below W.heap.size W w') :
    Calls Tryz.prog 52 #[.bool g, s, .int .i64 e, .int .i64 53, .int .i64 11] w fun e w' => e = .returned (.tuple #[.int .u64 0, .bool false]) ∧ Below w.heap.size w w' := by
  have K1 := Lib.hid k1; have K2 := Lib.hid k2; have K3 := Lib.hid k3; have K4 := Lib.hid k4; clear k1 k2 k3 k4
  have DX0 := hs; clear hs
  cases g
  all_goals
    go_enter Tryz.func52, Tryz.ntmps52
    go_wp2_with fail
    refine (K1.out _ _ (DR.keep (by repeat (first | (with_reducible exact Below.refl _ _) | (with_reducible refine bal ?_ _) | (with_reducible refine Below.drew ?_) | (with_reducible refine bdn ?_ _))) DX0)).mono ?_
    rintro e w1 ⟨rfl, hb⟩
    have hbX : Below w.heap.size w w1 := btr (by repeat (first | (with_reducible exact Below.refl _ _) | (with_reducible refine bal ?_ _) | (with_reducible refine Below.drew ?_) | (with_reducible refine bdn ?_ _))) hb
    have DX1 : DR w1 s x := DR.keep hbX DX0
    clear DX0
    clear hbX
    have BW1 : Below w.heap.size w w1 := btr (by repeat (first | (with_reducible exact Below.refl _ _) | (with_reducible refine bal ?_ _) | (with_reducible refine Below.drew ?_) | (with_reducible refine bdn ?_ _))) hb
    clear hb
    go_wp2_with fail
    refine (K2.out _ _ (DR.keep (by repeat (first | (with_reducible exact Below.refl _ _) | (with_reducible refine bal ?_ _) | (with_reducible refine Below.drew ?_) | (with_reducible refine bdn ?_ _))) DX1)).mono ?_
    rintro e w2 ⟨rfl, hb⟩
    have hbX : Below w1.heap.size w1 w2 := btr (by repeat (first | (with_reducible exact Below.refl _ _) | (with_reducible refine bal ?_ _) | (with_reducible refine Below.drew ?_) | (with_reducible refine bdn ?_ _))) hb
    have DX2 : DR w2 s x := DR.keep hbX DX1
    clear DX1
    clear hbX
    have BW2 : Below w.heap.size w w2 := btr (by repeat (first | (with_reducible exact BW1) | (with_reducible refine bal ?_ _) | (with_reducible refine Below.drew ?_) | (with_reducible refine bdn ?_ _))) hb
    clear BW1
    clear hb
    go_wp2_with fail
    refine (K2.out _ _ (DR.keep (by repeat (first | (with_reducible exact Below.refl _ _) | (with_reducible refine bal ?_ _) | (with_reducible refine Below.drew ?_) | (with_reducible refine bdn ?_ _))) DX2)).mono ?_
    rintro e w3 ⟨rfl, hb⟩
    have hbX : Below w2.heap.size w2 w3 := btr (by repeat (first | (with_reducible exact Below.refl _ _) | (with_reducible refine bal ?_ _) | (with_reducible refine Below.drew ?_) | (with_reducible refine bdn ?_ _))) hb
    have DX3 : DR w3 s x := DR.keep hbX DX2
    clear DX2
    clear hbX
    have BW3 : Below w.heap.size w w3 := btr (by repeat (first | (with_reducible exact BW2) | (with_reducible refine bal ?_ _) | (with_reducible refine Below.drew ?_) | (with_reducible refine bdn ?_ _))) hb
    clear BW2
    clear hb
    go_wp2_with fail
    refine (K3.out _ _ (DR.keep (by repeat (first | (with_reducible exact Below.refl _ _) | (with_reducible refine bal ?_ _) | (with_reducible refine Below.drew ?_) | (with_reducible refine bdn ?_ _))) DX3)).mono ?_
    rintro e w4 ⟨s2, rfl, hr, hb⟩
    have hbX : Below w3.heap.size w3 w4 := btr (by repeat (first | (with_reducible exact Below.refl _ _) | (with_reducible refine bal ?_ _) | (with_reducible refine Below.drew ?_) | (with_reducible refine bdn ?_ _))) hb
    have DX4 : DR w4 s x := DR.keep hbX DX3
    clear DX3
    clear hbX
    have DO4 : DR w4 s2 o := hr
    clear hr
    have BW4 : Below w.heap.size w w4 := btr (by repeat (first | (with_reducible exact BW3) | (with_reducible refine bal ?_ _) | (with_reducible refine Below.drew ?_) | (with_reducible refine bdn ?_ _))) hb
    clear BW3
    clear hb
    go_wp2_with fail
    refine (K4.out _ _ (DR.keep (by repeat (first | (with_reducible exact Below.refl _ _) | (with_reducible refine bal ?_ _) | (with_reducible refine Below.drew ?_) | (with_reducible refine bdn ?_ _))) DO4)).mono ?_
    rintro e w5 ⟨rfl, hb⟩
    have hbX : Below w4.heap.size w4 w5 := btr (by repeat (first | (with_reducible exact Below.refl _ _) | (with_reducible refine bal ?_ _) | (with_reducible refine Below.drew ?_) | (with_reducible refine bdn ?_ _))) hb
    have DX5 : DR w5 s x := DR.keep hbX DX4
    have DO5 : DR w5 s2 o := DR.keep hbX DO4
    clear DX4 DO4
    clear hbX
    have BW5 : Below w.heap.size w w5 := btr (by repeat (first | (with_reducible exact BW4) | (with_reducible refine bal ?_ _) | (with_reducible refine Below.drew ?_) | (with_reducible refine bdn ?_ _))) hb
    clear BW4
    clear hb
    go_wp2_with fail
    refine (K4.out _ _ (DR.keep (by repeat (first | (with_reducible exact Below.refl _ _) | (with_reducible refine bal ?_ _) | (with_reducible refine Below.drew ?_) | (with_reducible refine bdn ?_ _))) DO5)).mono ?_
    rintro e w6 ⟨rfl, hb⟩
    have hbX : Below w5.heap.size w5 w6 := btr (by repeat (first | (with_reducible exact Below.refl _ _) | (with_reducible refine bal ?_ _) | (with_reducible refine Below.drew ?_) | (with_reducible refine bdn ?_ _))) hb
    have DX6 : DR w6 s x := DR.keep hbX DX5
    have DO6 : DR w6 s2 o := DR.keep hbX DO5
    clear DX5 DO5
    clear hbX
    have BW6 : Below w.heap.size w w6 := btr (by repeat (first | (with_reducible exact BW5) | (with_reducible refine bal ?_ _) | (with_reducible refine Below.drew ?_) | (with_reducible refine bdn ?_ _))) hb
    clear BW5
    clear hb
    go_wp2
    first
      | exact bodyPost_ret (v := .tuple #[.int .u64 0, .bool false]) (by simp [results, Tryz.results52, go_sem]) rfl ⟨rfl, by repeat (first | (with_reducible exact BW6) | (with_reducible refine bal ?_ _) | (with_reducible refine Below.drew ?_) | (with_reducible refine bdn ?_ _))⟩
end Go.Proofs.YtpgpodjmdflmeaaGreatDoor
end
section
namespace Go.Proofs.YtpgpodjmdflmeaaGreatDoor
open Go.RowKit Go.Shelf

set_option maxHeartbeats 2000000 in
set_option maxRecDepth 100000 in
theorem pack24_zero (g : Bool) (s : Value) (x : Nat) (e : Int) (w : World) (hs : DR w s x)
    (k1 : ∀ s' W, DR W s' x → Calls Tryz.prog 48 #[s'] W fun e w' => e = .returned (.int .i64 0) ∧ Below W.heap.size W w') :
    Calls Tryz.prog 52 #[.bool g, s, .int .i64 e, .int .i64 24, .int .i64 8] w fun e w' => e = .returned (.tuple #[.int .u64 (if g then 2147483648 else 0), .bool true]) ∧ Below w.heap.size w w' := by
  have K1 := Lib.hid k1; clear k1
  have DX0 := hs; clear hs
  cases g
  all_goals
    go_enter Tryz.func52, Tryz.ntmps52
    go_wp2_with fail
    refine (K1.out _ _ (DR.keep (by repeat (first | (with_reducible exact Below.refl _ _) | (with_reducible refine bal ?_ _) | (with_reducible refine Below.drew ?_) | (with_reducible refine bdn ?_ _))) DX0)).mono ?_
    rintro e w1 ⟨rfl, hb⟩
    have hbX : Below w.heap.size w w1 := btr (by repeat (first | (with_reducible exact Below.refl _ _) | (with_reducible refine bal ?_ _) | (with_reducible refine Below.drew ?_) | (with_reducible refine bdn ?_ _))) hb
    have DX1 : DR w1 s x := DR.keep hbX DX0
    clear DX0
    clear hbX
    have BW1 : Below w.heap.size w w1 := btr (by repeat (first | (with_reducible exact Below.refl _ _) | (with_reducible refine bal ?_ _) | (with_reducible refine Below.drew ?_) | (with_reducible refine bdn ?_ _))) hb
    clear hb
    go_wp2
    first
      | exact bodyPost_ret (v := .tuple #[.int .u64 0, .bool true]) (by simp [results, Tryz.results52, go_sem]) rfl ⟨rfl, by repeat (first | (with_reducible exact BW1) | (with_reducible refine bal ?_ _) | (with_reducible refine Below.drew ?_) | (with_reducible refine bdn ?_ _))⟩
      | exact bodyPost_ret (v := .tuple #[.int .u64 2147483648, .bool true]) (by simp [results, Tryz.results52, go_sem]) rfl ⟨rfl, by repeat (first | (with_reducible exact BW1) | (with_reducible refine bal ?_ _) | (with_reducible refine Below.drew ?_) | (with_reducible refine bdn ?_ _))⟩
set_option maxHeartbeats 2000000 in
set_option maxRecDepth 100000 in
theorem pack24_norm (g : Bool) (s : Value) (x o t L L0 : Nat) (e : Int) (r : Int) (w : World) (hs : DR w s x) (he0 : -2000 ≤ e) (he1 : e ≤ 2000) (ht0 : t ≤ 2000) (hL0 : ((L0 : Int) == 0) = false) (hL : L ≤ 2000) (hl : (L : Int) ≤ 24) (ht : e + t + L - 1 ≤ 127) (ht2 : -126 ≤ e + t + L - 1) (hle : -149 ≤ e + t)
    (k1 : ∀ s' W, DR W s' x → Calls Tryz.prog 48 #[s'] W fun e w' => e = .returned (.int .i64 (L0 : Int)) ∧ Below W.heap.size W w')
    (k2 : ∀ s' W, DR W s' x → Calls Tryz.prog 85 #[s'] W fun e w' => e = .returned (.int .i64 (t : Int)) ∧ Below W.heap.size W w')
    (k3 : ∀ s' W, DR W s' x → Calls Tryz.prog 50 #[s', .int .i64 (-(t : Int))] W fun e w' => ∃ s2, e = .returned s2 ∧ DR w' s2 o ∧ Below W.heap.size W w')
    (k4 : ∀ s' W, DR W s' o → Calls Tryz.prog 48 #[s'] W fun e w' => e = .returned (.int .i64 (L : Int)) ∧ Below W.heap.size W w')
    (k5 : ∀ s' W, DR W s' o → Calls Tryz.prog 8 #[s'] W fun e w' => e = .returned (.tuple #[N4 o, .bool true]) ∧ Below W.heap.size W w')
    (hr : bits .or .u64 (bits .or .u64 (if g then 2147483648 else 0) ((e + t + L - 1 + 127) * 8388608)) (bits .and .u64 (IntKind.u64.wrap (lb 0 o * 2 ^ (24 - L))) 8388607) = r) :
    Calls Tryz.prog 52 #[.bool g, s, .int .i64 e, .int .i64 24, .int .i64 8] w fun e w' => e = .returned (.tuple #[.int .u64 r, .bool true]) ∧ Below w.heap.size w w' := by
  have K1 := Lib.hid k1; have K2 := Lib.hid k2; have K3 := Lib.hid k3; have K4 := Lib.hid k4; have K5 := Lib.hid k5; clear k1 k2 k3 k4 k5
  have HR := Lib.hid hr; clear hr
  have DX0 := hs; clear hs
  cases g
  all_goals
    simp only [if_true, if_false, Bool.false_eq_true] at HR
    go_enter Tryz.func52, Tryz.ntmps52
    go_wp2_with fail
    refine (K1.out _ _ (DR.keep (by repeat (first | (with_reducible exact Below.refl _ _) | (with_reducible refine bal ?_ _) | (with_reducible refine Below.drew ?_) | (with_reducible refine bdn ?_ _))) DX0)).mono ?_
    rintro e w1 ⟨rfl, hb⟩
    have hbX : Below w.heap.size w w1 := btr (by repeat (first | (with_reducible exact Below.refl _ _) | (with_reducible refine bal ?_ _) | (with_reducible refine Below.drew ?_) | (with_reducible refine bdn ?_ _))) hb
    have DX1 : DR w1 s x := DR.keep hbX DX0
    clear DX0
    clear hbX
    have BW1 : Below w.heap.size w w1 := btr (by repeat (first | (with_reducible exact Below.refl _ _) | (with_reducible refine bal ?_ _) | (with_reducible refine Below.drew ?_) | (with_reducible refine bdn ?_ _))) hb
    clear hb
    go_wp2_with fail
    refine (K2.out _ _ (DR.keep (by repeat (first | (with_reducible exact Below.refl _ _) | (with_reducible refine bal ?_ _) | (with_reducible refine Below.drew ?_) | (with_reducible refine bdn ?_ _))) DX1)).mono ?_
    rintro e w2 ⟨rfl, hb⟩
    have hbX : Below w1.heap.size w1 w2 := btr (by repeat (first | (with_reducible exact Below.refl _ _) | (with_reducible refine bal ?_ _) | (with_reducible refine Below.drew ?_) | (with_reducible refine bdn ?_ _))) hb
    have DX2 : DR w2 s x := DR.keep hbX DX1
    clear DX1
    clear hbX
    have BW2 : Below w.heap.size w w2 := btr (by repeat (first | (with_reducible exact BW1) | (with_reducible refine bal ?_ _) | (with_reducible refine Below.drew ?_) | (with_reducible refine bdn ?_ _))) hb
    clear BW1
    clear hb
    go_wp2_with fail
    refine (K2.out _ _ (DR.keep (by repeat (first | (with_reducible exact Below.refl _ _) | (with_reducible refine bal ?_ _) | (with_reducible refine Below.drew ?_) | (with_reducible refine bdn ?_ _))) DX2)).mono ?_
    rintro e w3 ⟨rfl, hb⟩
    have hbX : Below w2.heap.size w2 w3 := btr (by repeat (first | (with_reducible exact Below.refl _ _) | (with_reducible refine bal ?_ _) | (with_reducible refine Below.drew ?_) | (with_reducible refine bdn ?_ _))) hb
    have DX3 : DR w3 s x := DR.keep hbX DX2
    clear DX2
    clear hbX
    have BW3 : Below w.heap.size w w3 := btr (by repeat (first | (with_reducible exact BW2) | (with_reducible refine bal ?_ _) | (with_reducible refine Below.drew ?_) | (with_reducible refine bdn ?_ _))) hb
    clear BW2
    clear hb
    go_wp2_with fail
    refine (K3.out _ _ (DR.keep (by repeat (first | (with_reducible exact Below.refl _ _) | (with_reducible refine bal ?_ _) | (with_reducible refine Below.drew ?_) | (with_reducible refine bdn ?_ _))) DX3)).mono ?_
    rintro e w4 ⟨s2, rfl, hr, hb⟩
    have hbX : Below w3.heap.size w3 w4 := btr (by repeat (first | (with_reducible exact Below.refl _ _) | (with_reducible refine bal ?_ _) | (with_reducible refine Below.drew ?_) | (with_reducible refine bdn ?_ _))) hb
    have DX4 : DR w4 s x := DR.keep hbX DX3
    clear DX3
    clear hbX
    have DO4 : DR w4 s2 o := hr
    clear hr
    have BW4 : Below w.heap.size w w4 := btr (by repeat (first | (with_reducible exact BW3) | (with_reducible refine bal ?_ _) | (with_reducible refine Below.drew ?_) | (with_reducible refine bdn ?_ _))) hb
    clear BW3
    clear hb
    go_wp2_with fail
    refine (K4.out _ _ (DR.keep (by repeat (first | (with_reducible exact Below.refl _ _) | (with_reducible refine bal ?_ _) | (with_reducible refine Below.drew ?_) | (with_reducible refine bdn ?_ _))) DO4)).mono ?_
    rintro e w5 ⟨rfl, hb⟩
    have hbX : Below w4.heap.size w4 w5 := btr (by repeat (first | (with_reducible exact Below.refl _ _) | (with_reducible refine bal ?_ _) | (with_reducible refine Below.drew ?_) | (with_reducible refine bdn ?_ _))) hb
    have DX5 : DR w5 s x := DR.keep hbX DX4
    have DO5 : DR w5 s2 o := DR.keep hbX DO4
    clear DX4 DO4
    clear hbX
    have BW5 : Below w.heap.size w w5 := btr (by repeat (first | (with_reducible exact BW4) | (with_reducible refine bal ?_ _) | (with_reducible refine Below.drew ?_) | (with_reducible refine bdn ?_ _))) hb
    clear BW4
    clear hb
    go_wp2_with fail
    refine (K4.out _ _ (DR.keep (by repeat (first | (with_reducible exact Below.refl _ _) | (with_reducible refine bal ?_ _) | (with_reducible refine Below.drew ?_) | (with_reducible refine bdn ?_ _))) DO5)).mono ?_
    rintro e w6 ⟨rfl, hb⟩
    have hbX : Below w5.heap.size w5 w6 := btr (by repeat (first | (with_reducible exact Below.refl _ _) | (with_reducible refine bal ?_ _) | (with_reducible refine Below.drew ?_) | (with_reducible refine bdn ?_ _))) hb
    have DX6 : DR w6 s x := DR.keep hbX DX5
    have DO6 : DR w6 s2 o := DR.keep hbX DO5
    clear DX5 DO5
    clear hbX
    have BW6 : Below w.heap.size w w6 := btr (by repeat (first | (with_reducible exact BW5) | (with_reducible refine bal ?_ _) | (with_reducible refine Below.drew ?_) | (with_reducible refine bdn ?_ _))) hb
    clear BW5
    clear hb
    go_wp2_with fail
    refine (K5.out _ _ (DR.keep (by repeat (first | (with_reducible exact Below.refl _ _) | (with_reducible refine bal ?_ _) | (with_reducible refine Below.drew ?_) | (with_reducible refine bdn ?_ _))) DO6)).mono ?_
    rintro e w7 ⟨rfl, hb⟩
    have hbX : Below w6.heap.size w6 w7 := btr (by repeat (first | (with_reducible exact Below.refl _ _) | (with_reducible refine bal ?_ _) | (with_reducible refine Below.drew ?_) | (with_reducible refine bdn ?_ _))) hb
    have DX7 : DR w7 s x := DR.keep hbX DX6
    have DO7 : DR w7 s2 o := DR.keep hbX DO6
    clear DX6 DO6
    clear hbX
    have BW7 : Below w.heap.size w w7 := btr (by repeat (first | (with_reducible exact BW6) | (with_reducible refine bal ?_ _) | (with_reducible refine Below.drew ?_) | (with_reducible refine bdn ?_ _))) hb
    clear BW6
    clear hb
    go_upto_region 14 with (fail)
    go_name_world w8 hw8
    have BW8 : Below w.heap.size w w8 := by rw [← hw8]; repeat (first | (with_reducible exact BW7) | (with_reducible refine bal ?_ _) | (with_reducible refine Below.drew ?_) | (with_reducible refine bdn ?_ _))
    have hbX : Below w7.heap.size w7 w8 := by rw [← hw8]; repeat (first | (with_reducible exact Below.refl _ _) | (with_reducible refine bal ?_ _) | (with_reducible refine Below.drew ?_) | (with_reducible refine bdn ?_ _))
    have DX8 : DR w8 s x := DR.keep hbX DX7
    have DO8 : DR w8 s2 o := DR.keep hbX DO7
    clear hbX DX7 DO7
    have N8 : Row4 w8 w7.heap.size (.int .u64 (lb 0 o)) (.int .u64 (lb 1 o)) (.int .u64 (lb 2 o)) (.int .u64 (lb 3 o)) := by rw [← hw8]; exact (by repeat (first | (with_reducible exact Row4.new _ _ _ _ _) | ((with_reducible refine Row4.new' _ ?_ _ _ _ _); (simp; done)) | (with_reducible refine Row4.alloc ?_ _) | (with_reducible refine Row4.drew ?_)))
    clear BW7
    clear hw8
    obtain ⟨Nc0, Nc1, Nc2, Nc3⟩ := N8.four
    obtain ⟨Nf0, Nf1, Nf2, Nf3⟩ := N8.free4
    go_wp2_with fail
    refine (K4.out _ _ (DR.keep (by repeat (first | (with_reducible exact Below.refl _ _) | (with_reducible refine bal ?_ _) | (with_reducible refine Below.drew ?_) | (with_reducible refine bdn ?_ _))) DO8)).mono ?_
    rintro e w9 ⟨rfl, hb⟩
    have hbX : Below w8.heap.size w8 w9 := btr (by repeat (first | (with_reducible exact Below.refl _ _) | (with_reducible refine bal ?_ _) | (with_reducible refine Below.drew ?_) | (with_reducible refine bdn ?_ _))) hb
    have DX9 : DR w9 s x := DR.keep hbX DX8
    have DO9 : DR w9 s2 o := DR.keep hbX DO8
    clear DX8 DO8
    clear hbX
    have BW9 : Below w.heap.size w w9 := btr (by repeat (first | (with_reducible exact BW8) | (with_reducible refine bal ?_ _) | (with_reducible refine Below.drew ?_) | (with_reducible refine bdn ?_ _))) hb
    have N9 : Row4 w9 w7.heap.size (.int .u64 (lb 0 o)) (.int .u64 (lb 1 o)) (.int .u64 (lb 2 o)) (.int .u64 (lb 3 o)) := Row4.keep hb (by repeat (first | (with_reducible exact N8) | (with_reducible refine Row4.alloc ?_ _) | (with_reducible refine Row4.drew ?_)))
    clear N8
    clear BW8
    clear hb
    have hr := HR.out
    go_wp2
    first
      | exact bodyPost_ret (v := .tuple #[.int .u64 r, .bool true]) (by simp [results, Tryz.results52, go_sem]) rfl ⟨rfl, by repeat (first | (with_reducible exact BW9) | (with_reducible refine bal ?_ _) | (with_reducible refine Below.drew ?_) | (with_reducible refine bdn ?_ _))⟩
set_option maxHeartbeats 2000000 in
set_option maxRecDepth 100000 in
theorem pack24_sub (g : Bool) (s : Value) (x o t L L0 : Nat) (e : Int) (r : Int) (w : World) (hs : DR w s x) (he0 : -2000 ≤ e) (he1 : e ≤ 2000) (ht0 : t ≤ 2000) (hL0 : ((L0 : Int) == 0) = false) (hL : L ≤ 2000) (hl : (L : Int) ≤ 24) (ht : e + t + L - 1 < -126) (hle : -149 ≤ e + t)
    (k1 : ∀ s' W, DR W s' x → Calls Tryz.prog 48 #[s'] W fun e w' => e = .returned (.int .i64 (L0 : Int)) ∧ Below W.heap.size W w')
    (k2 : ∀ s' W, DR W s' x → Calls Tryz.prog 85 #[s'] W fun e w' => e = .returned (.int .i64 (t : Int)) ∧ Below W.heap.size W w')
    (k3 : ∀ s' W, DR W s' x → Calls Tryz.prog 50 #[s', .int .i64 (-(t : Int))] W fun e w' => ∃ s2, e = .returned s2 ∧ DR w' s2 o ∧ Below W.heap.size W w')
    (k4 : ∀ s' W, DR W s' o → Calls Tryz.prog 48 #[s'] W fun e w' => e = .returned (.int .i64 (L : Int)) ∧ Below W.heap.size W w')
    (k5 : ∀ s' W, DR W s' o → Calls Tryz.prog 8 #[s'] W fun e w' => e = .returned (.tuple #[N4 o, .bool true]) ∧ Below W.heap.size W w')
    (hr : bits .or .u64 (if g then 2147483648 else 0) (IntKind.u64.wrap (lb 0 o * 2 ^ (e + t + 149).toNat)) = r) :
    Calls Tryz.prog 52 #[.bool g, s, .int .i64 e, .int .i64 24, .int .i64 8] w fun e w' => e = .returned (.tuple #[.int .u64 r, .bool true]) ∧ Below w.heap.size w w' := by
  have K1 := Lib.hid k1; have K2 := Lib.hid k2; have K3 := Lib.hid k3; have K4 := Lib.hid k4; have K5 := Lib.hid k5; clear k1 k2 k3 k4 k5
  have HR := Lib.hid hr; clear hr
  have DX0 := hs; clear hs
  cases g
  all_goals
    simp only [if_true, if_false, Bool.false_eq_true] at HR
    go_enter Tryz.func52, Tryz.ntmps52
    go_wp2_with fail
    refine (K1.out _ _ (DR.keep (by repeat (first | (with_reducible exact Below.refl _ _) | (with_reducible refine bal ?_ _) | (with_reducible refine Below.drew ?_) | (with_reducible refine bdn ?_ _))) DX0)).mono ?_
    rintro e w1 ⟨rfl, hb⟩
    have hbX : Below w.heap.size w w1 := btr (by repeat (first | (with_reducible exact Below.refl _ _) | (with_reducible refine bal ?_ _) | (with_reducible refine Below.drew ?_) | (with_reducible refine bdn ?_ _))) hb
    have DX1 : DR w1 s x := DR.keep hbX DX0
    clear DX0
    clear hbX
    have BW1 : Below w.heap.size w w1 := btr (by repeat (first | (with_reducible exact Below.refl _ _) | (with_reducible refine bal ?_ _) | (with_reducible refine Below.drew ?_) | (with_reducible refine bdn ?_ _))) hb
    clear hb
    go_wp2_with fail
    refine (K2.out _ _ (DR.keep (by repeat (first | (with_reducible exact Below.refl _ _) | (with_reducible refine bal ?_ _) | (with_reducible refine Below.drew ?_) | (with_reducible refine bdn ?_ _))) DX1)).mono ?_
    rintro e w2 ⟨rfl, hb⟩
    have hbX : Below w1.heap.size w1 w2 := btr (by repeat (first | (with_reducible exact Below.refl _ _) | (with_reducible refine bal ?_ _) | (with_reducible refine Below.drew ?_) | (with_reducible refine bdn ?_ _))) hb
    have DX2 : DR w2 s x := DR.keep hbX DX1
    clear DX1
    clear hbX
    have BW2 : Below w.heap.size w w2 := btr (by repeat (first | (with_reducible exact BW1) | (with_reducible refine bal ?_ _) | (with_reducible refine Below.drew ?_) | (with_reducible refine bdn ?_ _))) hb
    clear BW1
    clear hb
    go_wp2_with fail
    refine (K2.out _ _ (DR.keep (by repeat (first | (with_reducible exact Below.refl _ _) | (with_reducible refine bal ?_ _) | (with_reducible refine Below.drew ?_) | (with_reducible refine bdn ?_ _))) DX2)).mono ?_
    rintro e w3 ⟨rfl, hb⟩
    have hbX : Below w2.heap.size w2 w3 := btr (by repeat (first | (with_reducible exact Below.refl _ _) | (with_reducible refine bal ?_ _) | (with_reducible refine Below.drew ?_) | (with_reducible refine bdn ?_ _))) hb
    have DX3 : DR w3 s x := DR.keep hbX DX2
    clear DX2
    clear hbX
    have BW3 : Below w.heap.size w w3 := btr (by repeat (first | (with_reducible exact BW2) | (with_reducible refine bal ?_ _) | (with_reducible refine Below.drew ?_) | (with_reducible refine bdn ?_ _))) hb
    clear BW2
    clear hb
    go_wp2_with fail
    refine (K3.out _ _ (DR.keep (by repeat (first | (with_reducible exact Below.refl _ _) | (with_reducible refine bal ?_ _) | (with_reducible refine Below.drew ?_) | (with_reducible refine bdn ?_ _))) DX3)).mono ?_
    rintro e w4 ⟨s2, rfl, hr, hb⟩
    have hbX : Below w3.heap.size w3 w4 := btr (by repeat (first | (with_reducible exact Below.refl _ _) | (with_reducible refine bal ?_ _) | (with_reducible refine Below.drew ?_) | (with_reducible refine bdn ?_ _))) hb
    have DX4 : DR w4 s x := DR.keep hbX DX3
    clear DX3
    clear hbX
    have DO4 : DR w4 s2 o := hr
    clear hr
    have BW4 : Below w.heap.size w w4 := btr (by repeat (first | (with_reducible exact BW3) | (with_reducible refine bal ?_ _) | (with_reducible refine Below.drew ?_) | (with_reducible refine bdn ?_ _))) hb
    clear BW3
    clear hb
    go_wp2_with fail
    refine (K4.out _ _ (DR.keep (by repeat (first | (with_reducible exact Below.refl _ _) | (with_reducible refine bal ?_ _) | (with_reducible refine Below.drew ?_) | (with_reducible refine bdn ?_ _))) DO4)).mono ?_
    rintro e w5 ⟨rfl, hb⟩
    have hbX : Below w4.heap.size w4 w5 := btr (by repeat (first | (with_reducible exact Below.refl _ _) | (with_reducible refine bal ?_ _) | (with_reducible refine Below.drew ?_) | (with_reducible refine bdn ?_ _))) hb
    have DX5 : DR w5 s x := DR.keep hbX DX4
    have DO5 : DR w5 s2 o := DR.keep hbX DO4
    clear DX4 DO4
    clear hbX
    have BW5 : Below w.heap.size w w5 := btr (by repeat (first | (with_reducible exact BW4) | (with_reducible refine bal ?_ _) | (with_reducible refine Below.drew ?_) | (with_reducible refine bdn ?_ _))) hb
    clear BW4
    clear hb
    go_wp2_with fail
    refine (K4.out _ _ (DR.keep (by repeat (first | (with_reducible exact Below.refl _ _) | (with_reducible refine bal ?_ _) | (with_reducible refine Below.drew ?_) | (with_reducible refine bdn ?_ _))) DO5)).mono ?_
    rintro e w6 ⟨rfl, hb⟩
    have hbX : Below w5.heap.size w5 w6 := btr (by repeat (first | (with_reducible exact Below.refl _ _) | (with_reducible refine bal ?_ _) | (with_reducible refine Below.drew ?_) | (with_reducible refine bdn ?_ _))) hb
    have DX6 : DR w6 s x := DR.keep hbX DX5
    have DO6 : DR w6 s2 o := DR.keep hbX DO5
    clear DX5 DO5
    clear hbX
    have BW6 : Below w.heap.size w w6 := btr (by repeat (first | (with_reducible exact BW5) | (with_reducible refine bal ?_ _) | (with_reducible refine Below.drew ?_) | (with_reducible refine bdn ?_ _))) hb
    clear BW5
    clear hb
    go_wp2_with fail
    refine (K5.out _ _ (DR.keep (by repeat (first | (with_reducible exact Below.refl _ _) | (with_reducible refine bal ?_ _) | (with_reducible refine Below.drew ?_) | (with_reducible refine bdn ?_ _))) DO6)).mono ?_
    rintro e w7 ⟨rfl, hb⟩
    have hbX : Below w6.heap.size w6 w7 := btr (by repeat (first | (with_reducible exact Below.refl _ _) | (with_reducible refine bal ?_ _) | (with_reducible refine Below.drew ?_) | (with_reducible refine bdn ?_ _))) hb
    have DX7 : DR w7 s x := DR.keep hbX DX6
    have DO7 : DR w7 s2 o := DR.keep hbX DO6
    clear DX6 DO6
    clear hbX
    have BW7 : Below w.heap.size w w7 := btr (by repeat (first | (with_reducible exact BW6) | (with_reducible refine bal ?_ _) | (with_reducible refine Below.drew ?_) | (with_reducible refine bdn ?_ _))) hb
    clear BW6
    clear hb
    go_upto_region 14 with (fail)
    go_name_world w8 hw8
    have BW8 : Below w.heap.size w w8 := by rw [← hw8]; repeat (first | (with_reducible exact BW7) | (with_reducible refine bal ?_ _) | (with_reducible refine Below.drew ?_) | (with_reducible refine bdn ?_ _))
    have hbX : Below w7.heap.size w7 w8 := by rw [← hw8]; repeat (first | (with_reducible exact Below.refl _ _) | (with_reducible refine bal ?_ _) | (with_reducible refine Below.drew ?_) | (with_reducible refine bdn ?_ _))
    have DX8 : DR w8 s x := DR.keep hbX DX7
    have DO8 : DR w8 s2 o := DR.keep hbX DO7
    clear hbX DX7 DO7
    have N8 : Row4 w8 w7.heap.size (.int .u64 (lb 0 o)) (.int .u64 (lb 1 o)) (.int .u64 (lb 2 o)) (.int .u64 (lb 3 o)) := by rw [← hw8]; exact (by repeat (first | (with_reducible exact Row4.new _ _ _ _ _) | ((with_reducible refine Row4.new' _ ?_ _ _ _ _); (simp; done)) | (with_reducible refine Row4.alloc ?_ _) | (with_reducible refine Row4.drew ?_)))
    clear BW7
    clear hw8
    obtain ⟨Nc0, Nc1, Nc2, Nc3⟩ := N8.four
    obtain ⟨Nf0, Nf1, Nf2, Nf3⟩ := N8.free4
    have hr := HR.out
    go_wp2
    first
      | exact bodyPost_ret (v := .tuple #[.int .u64 r, .bool true]) (by simp [results, Tryz.results52, go_sem]) rfl ⟨rfl, by repeat (first | (with_reducible exact BW8) | (with_reducible refine bal ?_ _) | (with_reducible refine Below.drew ?_) | (with_reducible refine bdn ?_ _))⟩
set_option maxHeartbeats 2000000 in
set_option maxRecDepth 100000 in
theorem pack24_long (g : Bool) (s : Value) (x o t L L0 : Nat) (e : Int) (w : World) (hs : DR w s x) (he0 : -2000 ≤ e) (he1 : e ≤ 2000) (ht0 : t ≤ 2000) (hL0 : ((L0 : Int) == 0) = false) (hL : L ≤ 2000) (hl : 24 < (L : Int))
    (k1 : ∀ s' W, DR W s' x → Calls Tryz.prog 48 #[s'] W fun e w' => e = .returned (.int .i64 (L0 : Int)) ∧ Below W.heap.size W w')
    (k2 : ∀ s' W, DR W s' x → Calls Tryz.prog 85 #[s'] W fun e w' => e = .returned (.int .i64 (t : Int)) ∧ Below W.heap.size W w')
    (k3 : ∀ s' W, DR W s' x → Calls Tryz.prog 50 #[s', .int .i64 (-(t : Int))] W fun e w' => ∃ s2, e = .returned s2 ∧ DR w' s2 o ∧ Below W.heap.size W w')
    (k4 : ∀ s' W, DR W s' o → Calls Tryz.prog 48 #[s'] W fun e w' => e = .returned (.int .i64 (L : Int)) ∧ Below W.heap.size W w') :
    Calls Tryz.prog 52 #[.bool g, s, .int .i64 e, .int .i64 24, .int .i64 8] w fun e w' => e = .returned (.tuple #[.int .u64 0, .bool false]) ∧ Below w.heap.size w w' := by
  have K1 := Lib.hid k1; have K2 := Lib.hid k2; have K3 := Lib.hid k3; have K4 := Lib.hid k4; clear k1 k2 k3 k4
  have DX0 := hs; clear hs
  cases g
  all_goals
    go_enter Tryz.func52, Tryz.ntmps52
    go_wp2_with fail
    refine (K1.out _ _ (DR.keep (by repeat (first | (with_reducible exact Below.refl _ _) | (with_reducible refine bal ?_ _) | (with_reducible refine Below.drew ?_) | (with_reducible refine bdn ?_ _))) DX0)).mono ?_
    rintro e w1 ⟨rfl, hb⟩
    have hbX : Below w.heap.size w w1 := btr (by repeat (first | (with_reducible exact Below.refl _ _) | (with_reducible refine bal ?_ _) | (with_reducible refine Below.drew ?_) | (with_reducible refine bdn ?_ _))) hb
    have DX1 : DR w1 s x := DR.keep hbX DX0
    clear DX0
    clear hbX
    have BW1 : Below w.heap.size w w1 := btr (by repeat (first | (with_reducible exact Below.refl _ _) | (with_reducible refine bal ?_ _) | (with_reducible refine Below.drew ?_) | (with_reducible refine bdn ?_ _))) hb
    clear hb
    go_wp2_with fail
    refine (K2.out _ _ (DR.keep (by repeat (first | (with_reducible exact Below.refl _ _) | (with_reducible refine bal ?_ _) | (with_reducible refine Below.drew ?_) | (with_reducible refine bdn ?_ _))) DX1)).mono ?_
    rintro e w2 ⟨rfl, hb⟩
    have hbX : Below w1.heap.size w1 w2 := btr (by repeat (first | (with_reducible exact Below.refl _ _) | (with_reducible refine bal ?_ _) | (with_reducible refine Below.drew ?_) | (with_reducible refine bdn ?_ _))) hb
    have DX2 : DR w2 s x := DR.keep hbX DX1
    clear DX1
    clear hbX
    have BW2 : Below w.heap.size w w2 := btr (by repeat (first | (with_reducible exact BW1) | (with_reducible refine bal ?_ _) | (with_reducible refine Below.drew ?_) | (with_reducible refine bdn ?_ _))) hb
    clear BW1
    clear hb
    go_wp2_with fail
    refine (K2.out _ _ (DR.keep (by repeat (first | (with_reducible exact Below.refl _ _) | (with_reducible refine bal ?_ _) | (with_reducible refine Below.drew ?_) | (with_reducible refine bdn ?_ _))) DX2)).mono ?_
    rintro e w3 ⟨rfl, hb⟩
    have hbX : Below w2.heap.size w2 w3 := btr (by repeat (first | (with_reducible exact Below.refl _ _) | (with_reducible refine bal ?_ _) | (with_reducible refine Below.drew ?_) | (with_reducible refine bdn ?_ _))) hb
    have DX3 : DR w3 s x := DR.keep hbX DX2
    clear DX2
    clear hbX
    have BW3 : Below w.heap.size w w3 := btr (by repeat (first | (with_reducible exact BW2) | (with_reducible refine bal ?_ _) | (with_reducible refine Below.drew ?_) | (with_reducible refine bdn ?_ _))) hb
    clear BW2
    clear hb
    go_wp2_with fail
    refine (K3.out _ _ (DR.keep (by repeat (first | (with_reducible exact Below.refl _ _) | (with_reducible refine bal ?_ _) | (with_reducible refine Below.drew ?_) | (with_reducible refine bdn ?_ _))) DX3)).mono ?_
    rintro e w4 ⟨s2, rfl, hr, hb⟩
    have hbX : Below w3.heap.size w3 w4 := btr (by repeat (first | (with_reducible exact Below.refl _ _) | (with_reducible refine bal ?_ _) | (with_reducible refine Below.drew ?_) | (with_reducible refine bdn ?_ _))) hb
    have DX4 : DR w4 s x := DR.keep hbX DX3
    clear DX3
    clear hbX
    have DO4 : DR w4 s2 o := hr
    clear hr
    have BW4 : Below w.heap.size w w4 := btr (by repeat (first | (with_reducible exact BW3) | (with_reducible refine bal ?_ _) | (with_reducible refine Below.drew ?_) | (with_reducible refine bdn ?_ _))) hb
    clear BW3
    clear hb
    go_wp2_with fail
    refine (K4.out _ _ (DR.keep (by repeat (first | (with_reducible exact Below.refl _ _) | (with_reducible refine bal ?_ _) | (with_reducible refine Below.drew ?_) | (with_reducible refine bdn ?_ _))) DO4)).mono ?_
    rintro e w5 ⟨rfl, hb⟩
    have hbX : Below w4.heap.size w4 w5 := btr (by repeat (first | (with_reducible exact Below.refl _ _) | (with_reducible refine bal ?_ _) | (with_reducible refine Below.drew ?_) | (with_reducible refine bdn ?_ _))) hb
    have DX5 : DR w5 s x := DR.keep hbX DX4
    have DO5 : DR w5 s2 o := DR.keep hbX DO4
    clear DX4 DO4
    clear hbX
    have BW5 : Below w.heap.size w w5 := btr (by repeat (first | (with_reducible exact BW4) | (with_reducible refine bal ?_ _) | (with_reducible refine Below.drew ?_) | (with_reducible refine bdn ?_ _))) hb
    clear BW4
    clear hb
    go_wp2_with fail
    refine (K4.out _ _ (DR.keep (by repeat (first | (with_reducible exact Below.refl _ _) | (with_reducible refine bal ?_ _) | (with_reducible refine Below.drew ?_) | (with_reducible refine bdn ?_ _))) DO5)).mono ?_
    rintro e w6 ⟨rfl, hb⟩
    have hbX : Below w5.heap.size w5 w6 := btr (by repeat (first | (with_reducible exact Below.refl _ _) | (with_reducible refine bal ?_ _) | (with_reducible refine Below.drew ?_) | (with_reducible refine bdn ?_ _))) hb
    have DX6 : DR w6 s x := DR.keep hbX DX5
    have DO6 : DR w6 s2 o := DR.keep hbX DO5
    clear DX5 DO5
    clear hbX
    have BW6 : Below w.heap.size w w6 := btr (by repeat (first | (with_reducible exact BW5) | (with_reducible refine bal ?_ _) | (with_reducible refine Below.drew ?_) | (with_reducible refine bdn ?_ _))) hb
    clear BW5
    clear hb
    go_wp2
    first
      | exact bodyPost_ret (v := .tuple #[.int .u64 0, .bool false]) (by simp [results, Tryz.results52, go_sem]) rfl ⟨rfl, by repeat (first | (with_reducible exact BW6) | (with_reducible refine bal ?_ _) | (with_reducible refine Below.drew ?_) | (with_reducible refine bdn ?_ _))⟩
set_option maxHeartbeats 2000000 in
set_option maxRecDepth 100000 in
theorem pack24_top (g : Bool) (s : Value) (x o t L L0 : Nat) (e : Int) (w : World) (hs : DR w s x) (he0 : -2000 ≤ e) (he1 : e ≤ 2000) (ht0 : t ≤ 2000) (hL0 : ((L0 : Int) == 0) = false) (hL : L ≤ 2000) (hl : (L : Int) ≤ 24) (ht : 127 < e + t + L - 1)
    (k1 : ∀ s' W, DR W s' x → Calls Tryz.prog 48 #[s'] W fun e w' => e = .returned (.int .i64 (L0 : Int)) ∧ Below W.heap.size W w')
    (k2 : ∀ s' W, DR W s' x → Calls Tryz.prog 85 #[s'] W fun e w' => e = .returned (.int .i64 (t : Int)) ∧ Below W.heap.size W w')
    (k3 : ∀ s' W, DR W s' x → Calls Tryz.prog 50 #[s', .int .i64 (-(t : Int))] W fun e w' => ∃ s2, e = .returned s2 ∧ DR w' s2 o ∧ Below W.heap.size W w')
    (k4 : ∀ s' W, DR W s' o → Calls Tryz.prog 48 #[s'] W fun e w' => e = .returned (.int .i64 (L : Int)) ∧ Below W.heap.size W w') :
    Calls Tryz.prog 52 #[.bool g, s, .int .i64 e, .int .i64 24, .int .i64 8] w fun e w' => e = .returned (.tuple #[.int .u64 0, .bool false]) ∧ Below w.heap.size w w' := by
  have K1 := Lib.hid k1; have K2 := Lib.hid k2; have K3 := Lib.hid k3; have K4 := Lib.hid k4; clear k1 k2 k3 k4
  have DX0 := hs; clear hs
  cases g
  all_goals
    go_enter Tryz.func52, Tryz.ntmps52
    go_wp2_with fail
    refine (K1.out _ _ (DR.keep (by repeat (first | (with_reducible exact Below.refl _ _) | (with_reducible refine bal ?_ _) | (with_reducible refine Below.drew ?_) | (with_reducible refine bdn ?_ _))) DX0)).mono ?_
    rintro e w1 ⟨rfl, hb⟩
    have hbX : Below w.heap.size w w1 := btr (by repeat (first | (with_reducible exact Below.refl _ _) | (with_reducible refine bal ?_ _) | (with_reducible refine Below.drew ?_) | (with_reducible refine bdn ?_ _))) hb
    have DX1 : DR w1 s x := DR.keep hbX DX0
    clear DX0
    clear hbX
    have BW1 : Below w.heap.size w w1 := btr (by repeat (first | (with_reducible exact Below.refl _ _) | (with_reducible refine bal ?_ _) | (with_reducible refine Below.drew ?_) | (with_reducible refine bdn ?_ _))) hb
    clear hb
    go_wp2_with fail
    refine (K2.out _ _ (DR.keep (by repeat (first | (with_reducible exact Below.refl _ _) | (with_reducible refine bal ?_ _) | (with_reducible refine Below.drew ?_) | (with_reducible refine bdn ?_ _))) DX1)).mono ?_
    rintro e w2 ⟨rfl, hb⟩
    have hbX : Below w1.heap.size w1 w2 := btr (by repeat (first | (with_reducible exact Below.refl _ _) | (with_reducible refine bal ?_ _) | (with_reducible refine Below.drew ?_) | (with_reducible refine bdn ?_ _))) hb
    have DX2 : DR w2 s x := DR.keep hbX DX1
    clear DX1
    clear hbX
    have BW2 : Below w.heap.size w w2 := btr (by repeat (first | (with_reducible exact BW1) | (with_reducible refine bal ?_ _) | (with_reducible refine Below.drew ?_) | (with_reducible refine bdn ?_ _))) hb
    clear BW1
    clear hb
    go_wp2_with fail
    refine (K2.out _ _ (DR.keep (by repeat (first | (with_reducible exact Below.refl _ _) | (with_reducible refine bal ?_ _) | (with_reducible refine Below.drew ?_) | (with_reducible refine bdn ?_ _))) DX2)).mono ?_
    rintro e w3 ⟨rfl, hb⟩
    have hbX : Below w2.heap.size w2 w3 := btr (by repeat (first | (with_reducible exact Below.refl _ _) | (with_reducible refine bal ?_ _) | (with_reducible refine Below.drew ?_) | (with_reducible refine bdn ?_ _))) hb
    have DX3 : DR w3 s x := DR.keep hbX DX2
    clear DX2
    clear hbX
    have BW3 : Below w.heap.size w w3 := btr (by repeat (first | (with_reducible exact BW2) | (with_reducible refine bal ?_ _) | (with_reducible refine Below.drew ?_) | (with_reducible refine bdn ?_ _))) hb
    clear BW2
    clear hb
    go_wp2_with fail
    refine (K3.out _ _ (DR.keep (by repeat (first | (with_reducible exact Below.refl _ _) | (with_reducible refine bal ?_ _) | (with_reducible refine Below.drew ?_) | (with_reducible refine bdn ?_ _))) DX3)).mono ?_
    rintro e w4 ⟨s2, rfl, hr, hb⟩
    have hbX : Below w3.heap.size w3 w4 := btr (by repeat (first | (with_reducible exact Below.refl _ _) | (with_reducible refine bal ?_ _) | (with_reducible refine Below.drew ?_) | (with_reducible refine bdn ?_ _))) hb
    have DX4 : DR w4 s x := DR.keep hbX DX3
    clear DX3
    clear hbX
    have DO4 : DR w4 s2 o := hr
    clear hr
    have BW4 : Below w.heap.size w w4 := btr (by repeat (first | (with_reducible exact BW3) | (with_reducible refine bal ?_ _) | (with_reducible refine Below.drew ?_) | (with_reducible refine bdn ?_ _))) hb
    clear BW3
    clear hb
    go_wp2_with fail
    refine (K4.out _ _ (DR.keep (by repeat (first | (with_reducible exact Below.refl _ _) | (with_reducible refine bal ?_ _) | (with_reducible refine Below.drew ?_) | (with_reducible refine bdn ?_ _))) DO4)).mono ?_
    rintro e w5 ⟨rfl, hb⟩
    have hbX : Below w4.heap.size w4 w5 := btr (by repeat (first | (with_reducible exact Below.refl _ _) | (with_reducible refine bal ?_ _) | (with_reducible refine Below.drew ?_) | (with_reducible refine bdn ?_ _))) hb
    have DX5 : DR w5 s x := DR.keep hbX DX4
    have DO5 : DR w5 s2 o := DR.keep hbX DO4
    clear DX4 DO4
    clear hbX
    have BW5 : Below w.heap.size w w5 := btr (by repeat (first | (with_reducible exact BW4) | (with_reducible refine bal ?_ _) | (with_reducible refine Below.drew ?_) | (with_reducible refine bdn ?_ _))) hb
    clear BW4
    clear hb
    go_wp2_with fail
    refine (K4.out _ _ (DR.keep (by repeat (first | (with_reducible exact Below.refl _ _) | (with_reducible refine bal ?_ _) | (with_reducible refine Below.drew ?_) | (with_reducible refine bdn ?_ _))) DO5)).mono ?_
    rintro e w6 ⟨rfl, hb⟩
    have hbX : Below w5.heap.size w5 w6 := btr (by repeat (first | (with_reducible exact Below.refl _ _) | (with_reducible refine bal ?_ _) | (with_reducible refine Below.drew ?_) | (with_reducible refine bdn ?_ _))) hb
    have DX6 : DR w6 s x := DR.keep hbX DX5
    have DO6 : DR w6 s2 o := DR.keep hbX DO5
    clear DX5 DO5
    clear hbX
    have BW6 : Below w.heap.size w w6 := btr (by repeat (first | (with_reducible exact BW5) | (with_reducible refine bal ?_ _) | (with_reducible refine Below.drew ?_) | (with_reducible refine bdn ?_ _))) hb
    clear BW5
    clear hb
    go_wp2
    first
      | exact bodyPost_ret (v := .tuple #[.int .u64 0, .bool false]) (by simp [results, Tryz.results52, go_sem]) rfl ⟨rfl, by repeat (first | (with_reducible exact BW6) | (with_reducible refine bal ?_ _) | (with_reducible refine Below.drew ?_) | (with_reducible refine bdn ?_ _))⟩
set_option maxHeartbeats 2000000 in
set_option maxRecDepth 100000 in
theorem pack24_low (g : Bool) (s : Value) (x o t L L0 : Nat) (e : Int) (w : World) (hs : DR w s x) (he0 : -2000 ≤ e) (he1 : e ≤ 2000) (ht0 : t ≤ 2000) (hL0 : ((L0 : Int) == 0) = false) (hL : L ≤ 2000) (hl : (L : Int) ≤ 24) (ht : e + t + L - 1 ≤ 127) (hle : e + t < -149)
    (k1 : ∀ s' W, DR W s' x → Calls Tryz.prog 48 #[s'] W fun e w' => e = .returned (.int .i64 (L0 : Int)) ∧ Below W.heap.size W w')
    (k2 : ∀ s' W, DR W s' x → Calls Tryz.prog 85 #[s'] W fun e w' => e = .returned (.int .i64 (t : Int)) ∧ Below W.heap.size W w')
    (k3 : ∀ s' W, DR W s' x → Calls Tryz.prog 50 #[s', .int .i64 (-(t : Int))] W fun e w' => ∃ s2, e = .returned s2 ∧ DR w' s2 o ∧ Below W.heap.size W w')
    (k4 : ∀ s' W, DR W s' o → Calls Tryz.prog 48 #[s'] W fun e w' => e = .returned (.int .i64 (L : Int)) ∧ Below W.heap.size W w') :
    Calls Tryz.prog 52 #[.bool g, s, .int .i64 e, .int .i64 24, .int .i64 8] w fun e w' => e = .returned (.tuple #[.int .u64 0, .bool false]) ∧ Below w.heap.size w w' := by
  have K1 := Lib.hid k1; have K2 := Lib.hid k2; have K3 := Lib.hid k3; have K4 := Lib.hid k4; clear k1 k2 k3 k4
  have DX0 := hs; clear hs
  cases g
  all_goals
    go_enter Tryz.func52, Tryz.ntmps52
    go_wp2_with fail
    refine (K1.out _ _ (DR.keep (by repeat (first | (with_reducible exact Below.refl _ _) | (with_reducible refine bal ?_ _) | (with_reducible refine Below.drew ?_) | (with_reducible refine bdn ?_ _))) DX0)).mono ?_
    rintro e w1 ⟨rfl, hb⟩
    have hbX : Below w.heap.size w w1 := btr (by repeat (first | (with_reducible exact Below.refl _ _) | (with_reducible refine bal ?_ _) | (with_reducible refine Below.drew ?_) | (with_reducible refine bdn ?_ _))) hb
    have DX1 : DR w1 s x := DR.keep hbX DX0
    clear DX0
    clear hbX
    have BW1 : Below w.heap.size w w1 := btr (by repeat (first | (with_reducible exact Below.refl _ _) | (with_reducible refine bal ?_ _) | (with_reducible refine Below.drew ?_) | (with_reducible refine bdn ?_ _))) hb
    clear hb
    go_wp2_with fail
    refine (K2.out _ _ (DR.keep (by repeat (first | (with_reducible exact Below.refl _ _) | (with_reducible refine bal ?_ _) | (with_reducible refine Below.drew ?_) | (with_reducible refine bdn ?_ _))) DX1)).mono ?_
    rintro e w2 ⟨rfl, hb⟩
    have hbX : Below w1.heap.size w1 w2 := btr (by repeat (first | (with_reducible exact Below.refl _ _) | (with_reducible refine bal ?_ _) | (with_reducible refine Below.drew ?_) | (with_reducible refine bdn ?_ _))) hb
    have DX2 : DR w2 s x := DR.keep hbX DX1
    clear DX1
    clear hbX
    have BW2 : Below w.heap.size w w2 := btr (by repeat (first | (with_reducible exact BW1) | (with_reducible refine bal ?_ _) | (with_reducible refine Below.drew ?_) | (with_reducible refine bdn ?_ _))) hb
    clear BW1
    clear hb
    go_wp2_with fail
    refine (K2.out _ _ (DR.keep (by repeat (first | (with_reducible exact Below.refl _ _) | (with_reducible refine bal ?_ _) | (with_reducible refine Below.drew ?_) | (with_reducible refine bdn ?_ _))) DX2)).mono ?_
    rintro e w3 ⟨rfl, hb⟩
    have hbX : Below w2.heap.size w2 w3 := btr (by repeat (first | (with_reducible exact Below.refl _ _) | (with_reducible refine bal ?_ _) | (with_reducible refine Below.drew ?_) | (with_reducible refine bdn ?_ _))) hb
    have DX3 : DR w3 s x := DR.keep hbX DX2
    clear DX2
    clear hbX
    have BW3 : Below w.heap.size w w3 := btr (by repeat (first | (with_reducible exact BW2) | (with_reducible refine bal ?_ _) | (with_reducible refine Below.drew ?_) | (with_reducible refine bdn ?_ _))) hb
    clear BW2
    clear hb
    go_wp2_with fail
    refine (K3.out _ _ (DR.keep (by repeat (first | (with_reducible exact Below.refl _ _) | (with_reducible refine bal ?_ _) | (with_reducible refine Below.drew ?_) | (with_reducible refine bdn ?_ _))) DX3)).mono ?_
    rintro e w4 ⟨s2, rfl, hr, hb⟩
    have hbX : Below w3.heap.size w3 w4 := btr (by repeat (first | (with_reducible exact Below.refl _ _) | (with_reducible refine bal ?_ _) | (with_reducible refine Below.drew ?_) | (with_reducible refine bdn ?_ _))) hb
    have DX4 : DR w4 s x := DR.keep hbX DX3
    clear DX3
    clear hbX
    have DO4 : DR w4 s2 o := hr
    clear hr
    have BW4 : Below w.heap.size w w4 := btr (by repeat (first | (with_reducible exact BW3) | (with_reducible refine bal ?_ _) | (with_reducible refine Below.drew ?_) | (with_reducible refine bdn ?_ _))) hb
    clear BW3
    clear hb
    go_wp2_with fail
    refine (K4.out _ _ (DR.keep (by repeat (first | (with_reducible exact Below.refl _ _) | (with_reducible refine bal ?_ _) | (with_reducible refine Below.drew ?_) | (with_reducible refine bdn ?_ _))) DO4)).mono ?_
    rintro e w5 ⟨rfl, hb⟩
    have hbX : Below w4.heap.size w4 w5 := btr (by repeat (first | (with_reducible exact Below.refl _ _) | (with_reducible refine bal ?_ _) | (with_reducible refine Below.drew ?_) | (with_reducible refine bdn ?_ _))) hb
    have DX5 : DR w5 s x := DR.keep hbX DX4
    have DO5 : DR w5 s2 o := DR.keep hbX DO4
    clear DX4 DO4
    clear hbX
    have BW5 : Below w.heap.size w w5 := btr (by repeat (first | (with_reducible exact BW4) | (with_reducible refine bal ?_ _) | (with_reducible refine Below.drew ?_) | (with_reducible refine bdn ?_ _))) hb
    clear BW4
    clear hb
    go_wp2_with fail
    refine (K4.out _ _ (DR.keep (by repeat (first | (with_reducible exact Below.refl _ _) | (with_reducible refine bal ?_ _) | (with_reducible refine Below.drew ?_) | (with_reducible refine bdn ?_ _))) DO5)).mono ?_
    rintro e w6 ⟨rfl, hb⟩
    have hbX : Below w5.heap.size w5 w6 := btr (by repeat (first | (with_reducible exact Below.refl _ _) | (with_reducible refine bal ?_ _) | (with_reducible refine Below.drew ?_) | (with_reducible refine bdn ?_ _))) hb
    have DX6 : DR w6 s x := DR.keep hbX DX5
    have DO6 : DR w6 s2 o := DR.keep hbX DO5
    clear DX5 DO5
    clear hbX
    have BW6 : Below w.heap.size w w6 := btr (by repeat (first | (with_reducible exact BW5) | (with_reducible refine bal ?_ _) | (with_reducible refine Below.drew ?_) | (with_reducible refine bdn ?_ _))) hb
    clear BW5
    clear hb
    go_wp2
    first
      | exact bodyPost_ret (v := .tuple #[.int .u64 0, .bool false]) (by simp [results, Tryz.results52, go_sem]) rfl ⟨rfl, by repeat (first | (with_reducible exact BW6) | (with_reducible refine bal ?_ _) | (with_reducible refine Below.drew ?_) | (with_reducible refine bdn ?_ _))⟩
end Go.Proofs.YtpgpodjmdflmeaaGreatDoor
end
section
namespace Go.Proofs.YtpgpodjmdflmeaaGreatDoor
open Go.RowKit Go.Shelf

set_option maxHeartbeats 2000000 in
set_option maxRecDepth 100000 in
theorem pack11_zero (g : Bool) (s : Value) (x : Nat) (e : Int) (w : World) (hs : DR w s x)
    (k1 : ∀ s' W, DR W s' x → Calls Tryz.prog 48 #[s'] W fun e w' => e = .returned (.int .i64 0) ∧ Below W.heap.size W w') :
    Calls Tryz.prog 52 #[.bool g, s, .int .i64 e, .int .i64 11, .int .i64 5] w fun e w' => e = .returned (.tuple #[.int .u64 (if g then 32768 else 0), .bool true]) ∧ Below w.heap.size w w' := by
  have K1 := Lib.hid k1; clear k1
  have DX0 := hs; clear hs
  cases g
  all_goals
    go_enter Tryz.func52, Tryz.ntmps52
    go_wp2_with fail
    refine (K1.out _ _ (DR.keep (by repeat (first | (with_reducible exact Below.refl _ _) | (with_reducible refine bal ?_ _) | (with_reducible refine Below.drew ?_) | (with_reducible refine bdn ?_ _))) DX0)).mono ?_
    rintro e w1 ⟨rfl, hb⟩
    have hbX : Below w.heap.size w w1 := btr (by repeat (first | (with_reducible exact Below.refl _ _) | (with_reducible refine bal ?_ _) | (with_reducible refine Below.drew ?_) | (with_reducible refine bdn ?_ _))) hb
    have DX1 : DR w1 s x := DR.keep hbX DX0
    clear DX0
    clear hbX
    have BW1 : Below w.heap.size w w1 := btr (by repeat (first | (with_reducible exact Below.refl _ _) | (with_reducible refine bal ?_ _) | (with_reducible refine Below.drew ?_) | (with_reducible refine bdn ?_ _))) hb
    clear hb
    go_wp2
    first
      | exact bodyPost_ret (v := .tuple #[.int .u64 0, .bool true]) (by simp [results, Tryz.results52, go_sem]) rfl ⟨rfl, by repeat (first | (with_reducible exact BW1) | (with_reducible refine bal ?_ _) | (with_reducible refine Below.drew ?_) | (with_reducible refine bdn ?_ _))⟩
      | exact bodyPost_ret (v := .tuple #[.int .u64 32768, .bool true]) (by simp [results, Tryz.results52, go_sem]) rfl ⟨rfl, by repeat (first | (with_reducible exact BW1) | (with_reducible refine bal ?_ _) | (with_reducible refine Below.drew ?_) | (with_reducible refine bdn ?_ _))⟩
set_option maxHeartbeats 2000000 in
set_option maxRecDepth 100000 in
theorem pack11_norm (g : Bool) (s : Value) (x o t L L0 : Nat) (e : Int) (r : Int) (w : World) (hs : DR w s x) (he0 : -2000 ≤ e) (he1 : e ≤ 2000) (ht0 : t ≤ 2000) (hL0 : ((L0 : Int) == 0) = false) (hL : L ≤ 2000) (hl : (L : Int) ≤ 11) (ht : e + t + L - 1 ≤ 15) (ht2 : -14 ≤ e + t + L - 1) (hle : -24 ≤ e + t)
    (k1 : ∀ s' W, DR W s' x → Calls Tryz.prog 48 #[s'] W fun e w' => e = .returned (.int .i64 (L0 : Int)) ∧ Below W.heap.size W w')
    (k2 : ∀ s' W, DR W s' x → Calls Tryz.prog 85 #[s'] W fun e w' => e = .returned (.int .i64 (t : Int)) ∧ Below W.heap.size W w')
    (k3 : ∀ s' W, DR W s' x → Calls Tryz.prog 50 #[s', .int .i64 (-(t : Int))] W fun e w' => ∃ s2, e = .returned s2 ∧ DR w' s2 o ∧ Below W.heap.size W w')
    (k4 : ∀ s' W, DR W s' o → Calls Tryz.prog 48 #[s'] W fun e w' => e = .returned (.int .i64 (L : Int)) ∧ Below W.heap.size W w')
    (k5 : ∀ s' W, DR W s' o → Calls Tryz.prog 8 #[s'] W fun e w' => e = .returned (.tuple #[N4 o, .bool true]) ∧ Below W.heap.size W w')
    (hr : bits .or .u64 (bits .or .u64 (if g then 32768 else 0) ((e + t + L - 1 + 15) * 1024)) (bits .and .u64 (IntKind.u64.wrap (lb 0 o * 2 ^ (11 - L))) 1023) = r) :
    Calls Tryz.prog 52 #[.bool g, s, .int .i64 e, .int .i64 11, .int .i64 5] w fun e w' => e = .returned (.tuple #[.int .u64 r, .bool true]) ∧ Below w.heap.size w w' := by
  have K1 := Lib.hid k1; have K2 := Lib.hid k2; have K3 := Lib.hid k3; have K4 := Lib.hid k4; have K5 := Lib.hid k5; clear k1 k2 k3 k4 k5
  have HR := Lib.hid hr; clear hr
  have DX0 := hs; clear hs
  cases g
  all_goals
    simp only [if_true, if_false, Bool.false_eq_true] at HR
    go_enter Tryz.func52, Tryz.ntmps52
    go_wp2_with fail
    refine (K1.out _ _ (DR.keep (by repeat (first | (with_reducible exact Below.refl _ _) | (with_reducible refine bal ?_ _) | (with_reducible refine Below.drew ?_) | (with_reducible refine bdn ?_ _))) DX0)).mono ?_
    rintro e w1 ⟨rfl, hb⟩
    have hbX : Below w.heap.size w w1 := btr (by repeat (first | (with_reducible exact Below.refl _ _) | (with_reducible refine bal ?_ _) | (with_reducible refine Below.drew ?_) | (with_reducible refine bdn ?_ _))) hb
    have DX1 : DR w1 s x := DR.keep hbX DX0
    clear DX0
    clear hbX
    have BW1 : Below w.heap.size w w1 := btr (by repeat (first | (with_reducible exact Below.refl _ _) | (with_reducible refine bal ?_ _) | (with_reducible refine Below.drew ?_) | (with_reducible refine bdn ?_ _))) hb
    clear hb
    go_wp2_with fail
    refine (K2.out _ _ (DR.keep (by repeat (first | (with_reducible exact Below.refl _ _) | (with_reducible refine bal ?_ _) | (with_reducible refine Below.drew ?_) | (with_reducible refine bdn ?_ _))) DX1)).mono ?_
    rintro e w2 ⟨rfl, hb⟩
    have hbX : Below w1.heap.size w1 w2 := btr (by repeat (first | (with_reducible exact Below.refl _ _) | (with_reducible refine bal ?_ _) | (with_reducible refine Below.drew ?_) | (with_reducible refine bdn ?_ _))) hb
    have DX2 : DR w2 s x := DR.keep hbX DX1
    clear DX1
    clear hbX
    have BW2 : Below w.heap.size w w2 := btr (by repeat (first | (with_reducible exact BW1) | (with_reducible refine bal ?_ _) | (with_reducible refine Below.drew ?_) | (with_reducible refine bdn ?_ _))) hb
    clear BW1
    clear hb
    go_wp2_with fail
    refine (K2.out _ _ (DR.keep (by repeat (first | (with_reducible exact Below.refl _ _) | (with_reducible refine bal ?_ _) | (with_reducible refine Below.drew ?_) | (with_reducible refine bdn ?_ _))) DX2)).mono ?_
    rintro e w3 ⟨rfl, hb⟩
    have hbX : Below w2.heap.size w2 w3 := btr (by repeat (first | (with_reducible exact Below.refl _ _) | (with_reducible refine bal ?_ _) | (with_reducible refine Below.drew ?_) | (with_reducible refine bdn ?_ _))) hb
    have DX3 : DR w3 s x := DR.keep hbX DX2
    clear DX2
    clear hbX
    have BW3 : Below w.heap.size w w3 := btr (by repeat (first | (with_reducible exact BW2) | (with_reducible refine bal ?_ _) | (with_reducible refine Below.drew ?_) | (with_reducible refine bdn ?_ _))) hb
    clear BW2
    clear hb
    go_wp2_with fail
    refine (K3.out _ _ (DR.keep (by repeat (first | (with_reducible exact Below.refl _ _) | (with_reducible refine bal ?_ _) | (with_reducible refine Below.drew ?_) | (with_reducible refine bdn ?_ _))) DX3)).mono ?_
    rintro e w4 ⟨s2, rfl, hr, hb⟩
    have hbX : Below w3.heap.size w3 w4 := btr (by repeat (first | (with_reducible exact Below.refl _ _) | (with_reducible refine bal ?_ _) | (with_reducible refine Below.drew ?_) | (with_reducible refine bdn ?_ _))) hb
    have DX4 : DR w4 s x := DR.keep hbX DX3
    clear DX3
    clear hbX
    have DO4 : DR w4 s2 o := hr
    clear hr
    have BW4 : Below w.heap.size w w4 := btr (by repeat (first | (with_reducible exact BW3) | (with_reducible refine bal ?_ _) | (with_reducible refine Below.drew ?_) | (with_reducible refine bdn ?_ _))) hb
    clear BW3
    clear hb
    go_wp2_with fail
    refine (K4.out _ _ (DR.keep (by repeat (first | (with_reducible exact Below.refl _ _) | (with_reducible refine bal ?_ _) | (with_reducible refine Below.drew ?_) | (with_reducible refine bdn ?_ _))) DO4)).mono ?_
    rintro e w5 ⟨rfl, hb⟩
    have hbX : Below w4.heap.size w4 w5 := btr (by repeat (first | (with_reducible exact Below.refl _ _) | (with_reducible refine bal ?_ _) | (with_reducible refine Below.drew ?_) | (with_reducible refine bdn ?_ _))) hb
    have DX5 : DR w5 s x := DR.keep hbX DX4
    have DO5 : DR w5 s2 o := DR.keep hbX DO4
    clear DX4 DO4
    clear hbX
    have BW5 : Below w.heap.size w w5 := btr (by repeat (first | (with_reducible exact BW4) | (with_reducible refine bal ?_ _) | (with_reducible refine Below.drew ?_) | (with_reducible refine bdn ?_ _))) hb
    clear BW4
    clear hb
    go_wp2_with fail
    refine (K4.out _ _ (DR.keep (by repeat (first | (with_reducible exact Below.refl _ _) | (with_reducible refine bal ?_ _) | (with_reducible refine Below.drew ?_) | (with_reducible refine bdn ?_ _))) DO5)).mono ?_
    rintro e w6 ⟨rfl, hb⟩
    have hbX : Below w5.heap.size w5 w6 := btr (by repeat (first | (with_reducible exact Below.refl _ _) | (with_reducible refine bal ?_ _) | (with_reducible refine Below.drew ?_) | (with_reducible refine bdn ?_ _))) hb
    have DX6 : DR w6 s x := DR.keep hbX DX5
    have DO6 : DR w6 s2 o := DR.keep hbX DO5
    clear DX5 DO5
    clear hbX
    have BW6 : Below w.heap.size w w6 := btr (by repeat (first | (with_reducible exact BW5) | (with_reducible refine bal ?_ _) | (with_reducible refine Below.drew ?_) | (with_reducible refine bdn ?_ _))) hb
    clear BW5
    clear hb
    go_wp2_with fail
    refine (K5.out _ _ (DR.keep (by repeat (first | (with_reducible exact Below.refl _ _) | (with_reducible refine bal ?_ _) | (with_reducible refine Below.drew ?_) | (with_reducible refine bdn ?_ _))) DO6)).mono ?_
    rintro e w7 ⟨rfl, hb⟩
    have hbX : Below w6.heap.size w6 w7 := btr (by repeat (first | (with_reducible exact Below.refl _ _) | (with_reducible refine bal ?_ _) | (with_reducible refine Below.drew ?_) | (with_reducible refine bdn ?_ _))) hb
    have DX7 : DR w7 s x := DR.keep hbX DX6
    have DO7 : DR w7 s2 o := DR.keep hbX DO6
    clear DX6 DO6
    clear hbX
    have BW7 : Below w.heap.size w w7 := btr (by repeat (first | (with_reducible exact BW6) | (with_reducible refine bal ?_ _) | (with_reducible refine Below.drew ?_) | (with_reducible refine bdn ?_ _))) hb
    clear BW6
    clear hb
    go_upto_region 14 with (fail)
    go_name_world w8 hw8
    have BW8 : Below w.heap.size w w8 := by rw [← hw8]; repeat (first | (with_reducible exact BW7) | (with_reducible refine bal ?_ _) | (with_reducible refine Below.drew ?_) | (with_reducible refine bdn ?_ _))
    have hbX : Below w7.heap.size w7 w8 := by rw [← hw8]; repeat (first | (with_reducible exact Below.refl _ _) | (with_reducible refine bal ?_ _) | (with_reducible refine Below.drew ?_) | (with_reducible refine bdn ?_ _))
    have DX8 : DR w8 s x := DR.keep hbX DX7
    have DO8 : DR w8 s2 o := DR.keep hbX DO7
    clear hbX DX7 DO7
    have N8 : Row4 w8 w7.heap.size (.int .u64 (lb 0 o)) (.int .u64 (lb 1 o)) (.int .u64 (lb 2 o)) (.int .u64 (lb 3 o)) := by rw [← hw8]; exact (by repeat (first | (with_reducible exact Row4.new _ _ _ _ _) | ((with_reducible refine Row4.new' _ ?_ _ _ _ _); (simp; done)) | (with_reducible refine Row4.alloc ?_ _) | (with_reducible refine Row4.drew ?_)))
    clear BW7
    clear hw8
    obtain ⟨Nc0, Nc1, Nc2, Nc3⟩ := N8.four
    obtain ⟨Nf0, Nf1, Nf2, Nf3⟩ := N8.free4
    go_wp2_with fail
    refine (K4.out _ _ (DR.keep (by repeat (first | (with_reducible exact Below.refl _ _) | (with_reducible refine bal ?_ _) | (with_reducible refine Below.drew ?_) | (with_reducible refine bdn ?_ _))) DO8)).mono ?_
    rintro e w9 ⟨rfl, hb⟩
    have hbX : Below w8.heap.size w8 w9 := btr (by repeat (first | (with_reducible exact Below.refl _ _) | (with_reducible refine bal ?_ _) | (with_reducible refine Below.drew ?_) | (with_reducible refine bdn ?_ _))) hb
    have DX9 : DR w9 s x := DR.keep hbX DX8
    have DO9 : DR w9 s2 o := DR.keep hbX DO8
    clear DX8 DO8
    clear hbX
    have BW9 : Below w.heap.size w w9 := btr (by repeat (first | (with_reducible exact BW8) | (with_reducible refine bal ?_ _) | (with_reducible refine Below.drew ?_) | (with_reducible refine bdn ?_ _))) hb
    have N9 : Row4 w9 w7.heap.size (.int .u64 (lb 0 o)) (.int .u64 (lb 1 o)) (.int .u64 (lb 2 o)) (.int .u64 (lb 3 o)) := Row4.keep hb (by repeat (first | (with_reducible exact N8) | (with_reducible refine Row4.alloc ?_ _) | (with_reducible refine Row4.drew ?_)))
    clear N8
    clear BW8
    clear hb
    have hr := HR.out
    go_wp2
    first
      | exact bodyPost_ret (v := .tuple #[.int .u64 r, .bool true]) (by simp [results, Tryz.results52, go_sem]) rfl ⟨rfl, by repeat (first | (with_reducible exact BW9) | (with_reducible refine bal ?_ _) | (with_reducible refine Below.drew ?_) | (with_reducible refine bdn ?_ _))⟩
set_option maxHeartbeats 2000000 in
set_option maxRecDepth 100000 in
theorem pack11_sub (g : Bool) (s : Value) (x o t L L0 : Nat) (e : Int) (r : Int) (w : World) (hs : DR w s x) (he0 : -2000 ≤ e) (he1 : e ≤ 2000) (ht0 : t ≤ 2000) (hL0 : ((L0 : Int) == 0) = false) (hL : L ≤ 2000) (hl : (L : Int) ≤ 11) (ht : e + t + L - 1 < -14) (hle : -24 ≤ e + t)
    (k1 : ∀ s' W, DR W s' x → Calls Tryz.prog 48 #[s'] W fun e w' => e = .returned (.int .i64 (L0 : Int)) ∧ Below W.heap.size W w')
    (k2 : ∀ s' W, DR W s' x → Calls Tryz.prog 85 #[s'] W fun e w' => e = .returned (.int .i64 (t : Int)) ∧ Below W.heap.size W w')
    (k3 : ∀ s' W, DR W s' x → Calls Tryz.prog 50 #[s', .int .i64 (-(t : Int))] W fun e w' => ∃ s2, e = .returned s2 ∧ DR w' s2 o ∧ Below W.heap.size W w')
    (k4 : ∀ s' W, DR W s' o → Calls Tryz.prog 48 #[s'] W fun e w' => e = .returned (.int .i64 (L : Int)) ∧ Below W.heap.size W w')
    (k5 : ∀ s' W, DR W s' o → Calls Tryz.prog 8 #[s'] W fun e w' => e = .returned (.tuple #[N4 o, .bool true]) ∧ Below W.heap.size W w')
    (hr : bits .or .u64 (if g then 32768 else 0) (IntKind.u64.wrap (lb 0 o * 2 ^ (e + t + 24).toNat)) = r) :
    Calls Tryz.prog 52 #[.bool g, s, .int .i64 e, .int .i64 11, .int .i64 5] w fun e w' => e = .returned (.tuple #[.int .u64 r, .bool true]) ∧ Below w.heap.size w w' := by
  have K1 := Lib.hid k1; have K2 := Lib.hid k2; have K3 := Lib.hid k3; have K4 := Lib.hid k4; have K5 := Lib.hid k5; clear k1 k2 k3 k4 k5
  have HR := Lib.hid hr; clear hr
  have DX0 := hs; clear hs
  cases g
  all_goals
    simp only [if_true, if_false, Bool.false_eq_true] at HR
    go_enter Tryz.func52, Tryz.ntmps52
    go_wp2_with fail
    refine (K1.out _ _ (DR.keep (by repeat (first | (with_reducible exact Below.refl _ _) | (with_reducible refine bal ?_ _) | (with_reducible refine Below.drew ?_) | (with_reducible refine bdn ?_ _))) DX0)).mono ?_
    rintro e w1 ⟨rfl, hb⟩
    have hbX : Below w.heap.size w w1 := btr (by repeat (first | (with_reducible exact Below.refl _ _) | (with_reducible refine bal ?_ _) | (with_reducible refine Below.drew ?_) | (with_reducible refine bdn ?_ _))) hb
    have DX1 : DR w1 s x := DR.keep hbX DX0
    clear DX0
    clear hbX
    have BW1 : Below w.heap.size w w1 := btr (by repeat (first | (with_reducible exact Below.refl _ _) | (with_reducible refine bal ?_ _) | (with_reducible refine Below.drew ?_) | (with_reducible refine bdn ?_ _))) hb
    clear hb
    go_wp2_with fail
    refine (K2.out _ _ (DR.keep (by repeat (first | (with_reducible exact Below.refl _ _) | (with_reducible refine bal ?_ _) | (with_reducible refine Below.drew ?_) | (with_reducible refine bdn ?_ _))) DX1)).mono ?_
    rintro e w2 ⟨rfl, hb⟩
    have hbX : Below w1.heap.size w1 w2 := btr (by repeat (first | (with_reducible exact Below.refl _ _) | (with_reducible refine bal ?_ _) | (with_reducible refine Below.drew ?_) | (with_reducible refine bdn ?_ _))) hb
    have DX2 : DR w2 s x := DR.keep hbX DX1
    clear DX1
    clear hbX
    have BW2 : Below w.heap.size w w2 := btr (by repeat (first | (with_reducible exact BW1) | (with_reducible refine bal ?_ _) | (with_reducible refine Below.drew ?_) | (with_reducible refine bdn ?_ _))) hb
    clear BW1
    clear hb
    go_wp2_with fail
    refine (K2.out _ _ (DR.keep (by repeat (first | (with_reducible exact Below.refl _ _) | (with_reducible refine bal ?_ _) | (with_reducible refine Below.drew ?_) | (with_reducible refine bdn ?_ _))) DX2)).mono ?_
    rintro e w3 ⟨rfl, hb⟩
    have hbX : Below w2.heap.size w2 w3 := btr (by repeat (first | (with_reducible exact Below.refl _ _) | (with_reducible refine bal ?_ _) | (with_reducible refine Below.drew ?_) | (with_reducible refine bdn ?_ _))) hb
    have DX3 : DR w3 s x := DR.keep hbX DX2
    clear DX2
    clear hbX
    have BW3 : Below w.heap.size w w3 := btr (by repeat (first | (with_reducible exact BW2) | (with_reducible refine bal ?_ _) | (with_reducible refine Below.drew ?_) | (with_reducible refine bdn ?_ _))) hb
    clear BW2
    clear hb
    go_wp2_with fail
    refine (K3.out _ _ (DR.keep (by repeat (first | (with_reducible exact Below.refl _ _) | (with_reducible refine bal ?_ _) | (with_reducible refine Below.drew ?_) | (with_reducible refine bdn ?_ _))) DX3)).mono ?_
    rintro e w4 ⟨s2, rfl, hr, hb⟩
    have hbX : Below w3.heap.size w3 w4 := btr (by repeat (first | (with_reducible exact Below.refl _ _) | (with_reducible refine bal ?_ _) | (with_reducible refine Below.drew ?_) | (with_reducible refine bdn ?_ _))) hb
    have DX4 : DR w4 s x := DR.keep hbX DX3
    clear DX3
    clear hbX
    have DO4 : DR w4 s2 o := hr
    clear hr
    have BW4 : Below w.heap.size w w4 := btr (by repeat (first | (with_reducible exact BW3) | (with_reducible refine bal ?_ _) | (with_reducible refine Below.drew ?_) | (with_reducible refine bdn ?_ _))) hb
    clear BW3
    clear hb
    go_wp2_with fail
    refine (K4.out _ _ (DR.keep (by repeat (first | (with_reducible exact Below.refl _ _) | (with_reducible refine bal ?_ _) | (with_reducible refine Below.drew ?_) | (with_reducible refine bdn ?_ _))) DO4)).mono ?_
    rintro e w5 ⟨rfl, hb⟩
    have hbX : Below w4.heap.size w4 w5 := btr (by repeat (first | (with_reducible exact Below.refl _ _) | (with_reducible refine bal ?_ _) | (with_reducible refine Below.drew ?_) | (with_reducible refine bdn ?_ _))) hb
    have DX5 : DR w5 s x := DR.keep hbX DX4
    have DO5 : DR w5 s2 o := DR.keep hbX DO4
    clear DX4 DO4
    clear hbX
    have BW5 : Below w.heap.size w w5 := btr (by repeat (first | (with_reducible exact BW4) | (with_reducible refine bal ?_ _) | (with_reducible refine Below.drew ?_) | (with_reducible refine bdn ?_ _))) hb
    clear BW4
    clear hb
    go_wp2_with fail
    refine (K4.out _ _ (DR.keep (by repeat (first | (with_reducible exact Below.refl _ _) | (with_reducible refine bal ?_ _) | (with_reducible refine Below.drew ?_) | (with_reducible refine bdn ?_ _))) DO5)).mono ?_
    rintro e w6 ⟨rfl, hb⟩
    have hbX : Below w5.heap.size w5 w6 := btr (by repeat (first | (with_reducible exact Below.refl _ _) | (with_reducible refine bal ?_ _) | (with_reducible refine Below.drew ?_) | (with_reducible refine bdn ?_ _))) hb
    have DX6 : DR w6 s x := DR.keep hbX DX5
    have DO6 : DR w6 s2 o := DR.keep hbX DO5
    clear DX5 DO5
    clear hbX
    have BW6 : Below w.heap.size w w6 := btr (by repeat (first | (with_reducible exact BW5) | (with_reducible refine bal ?_ _) | (with_reducible refine Below.drew ?_) | (with_reducible refine bdn ?_ _))) hb
    clear BW5
    clear hb
    go_wp2_with fail
    refine (K5.out _ _ (DR.keep (by repeat (first | (with_reducible exact Below.refl _ _) | (with_reducible refine bal ?_ _) | (with_reducible refine Below.drew ?_) | (with_reducible refine bdn ?_ _))) DO6)).mono ?_
    rintro e w7 ⟨rfl, hb⟩
    have hbX : Below w6.heap.size w6 w7 := btr (by repeat (first | (with_reducible exact Below.refl _ _) | (with_reducible refine bal ?_ _) | (with_reducible refine Below.drew ?_) | (with_reducible refine bdn ?_ _))) hb
    have DX7 : DR w7 s x := DR.keep hbX DX6
    have DO7 : DR w7 s2 o := DR.keep hbX DO6
    clear DX6 DO6
    clear hbX
    have BW7 : Below w.heap.size w w7 := btr (by repeat (first | (with_reducible exact BW6) | (with_reducible refine bal ?_ _) | (with_reducible refine Below.drew ?_) | (with_reducible refine bdn ?_ _))) hb
    clear BW6
    clear hb
    go_upto_region 14 with (fail)
    go_name_world w8 hw8
    have BW8 : Below w.heap.size w w8 := by rw [← hw8]; repeat (first | (with_reducible exact BW7) | (with_reducible refine bal ?_ _) | (with_reducible refine Below.drew ?_) | (with_reducible refine bdn ?_ _))
    have hbX : Below w7.heap.size w7 w8 := by rw [← hw8]; repeat (first | (with_reducible exact Below.refl _ _) | (with_reducible refine bal ?_ _) | (with_reducible refine Below.drew ?_) | (with_reducible refine bdn ?_ _))
    have DX8 : DR w8 s x := DR.keep hbX DX7
    have DO8 : DR w8 s2 o := DR.keep hbX DO7
    clear hbX DX7 DO7
    have N8 : Row4 w8 w7.heap.size (.int .u64 (lb 0 o)) (.int .u64 (lb 1 o)) (.int .u64 (lb 2 o)) (.int .u64 (lb 3 o)) := by rw [← hw8]; exact (by repeat (first | (with_reducible exact Row4.new _ _ _ _ _) | ((with_reducible refine Row4.new' _ ?_ _ _ _ _); (simp; done)) | (with_reducible refine Row4.alloc ?_ _) | (with_reducible refine Row4.drew ?_)))
    clear BW7
    clear hw8
    obtain ⟨Nc0, Nc1, Nc2, Nc3⟩ := N8.four
    obtain ⟨Nf0, Nf1, Nf2, Nf3⟩ := N8.free4
    have hr := HR.out
    go_wp2
    first
      | exact bodyPost_ret (v := .tuple #[.int .u64 r, .bool true]) (by simp [results, Tryz.results52, go_sem]) rfl ⟨rfl, by repeat (first | (with_reducible exact BW8) | (with_reducible refine bal ?_ _) | (with_reducible refine Below.drew ?_) | (with_reducible refine bdn ?_ _))⟩
set_option maxHeartbeats 2000000 in
set_option maxRecDepth 100000 in
theorem pack11_long (g : Bool) (s : Value) (x o t L L0 : Nat) (e : Int) (w : World) (hs : DR w s x) (he0 : -2000 ≤ e) (he1 : e ≤ 2000) (ht0 : t ≤ 2000) (hL0 : ((L0 : Int) == 0) = false) (hL : L ≤ 2000) (hl : 11 < (L : Int))
    (k1 : ∀ s' W, DR W s' x → Calls Tryz.prog 48 #[s'] W fun e w' => e = .returned (.int .i64 (L0 : Int)) ∧ Below W.heap.size W w')
    (k2 : ∀ s' W, DR W s' x → Calls Tryz.prog 85 #[s'] W fun e w' => e = .returned (.int .i64 (t : Int)) ∧ Below W.heap.size W w')
    (k3 : ∀ s' W, DR W s' x → Calls Tryz.prog 50 #[s', .int .i64 (-(t : Int))] W fun e w' => ∃ s2, e = .returned s2 ∧ DR w' s2 o ∧ Below W.heap.size W w')
    (k4 : ∀ s' W, DR W s' o → Calls Tryz.prog 48 #[s'] W fun e w' => e = .returned (.int .i64 (L : Int)) ∧ Below W.heap.size W w') :
    Calls Tryz.prog 52 #[.bool g, s, .int .i64 e, .int .i64 11, .int .i64 5] w fun e w' => e = .returned (.tuple #[.int .u64 0, .bool false]) ∧ Below w.heap.size w w' := by
  have K1 := Lib.hid k1; have K2 := Lib.hid k2; have K3 := Lib.hid k3; have K4 := Lib.hid k4; clear k1 k2 k3 k4
  have DX0 := hs; clear hs
  cases g
  all_goals
    go_enter Tryz.func52, Tryz.ntmps52
    go_wp2_with fail
    refine (K1.out _ _ (DR.keep (by repeat (first | (with_reducible exact Below.refl _ _) | (with_reducible refine bal ?_ _) | (with_reducible refine Below.drew ?_) | (with_reducible refine bdn ?_ _))) DX0)).mono ?_
    rintro e w1 ⟨rfl, hb⟩
    have hbX : Below w.heap.size w w1 := btr (by repeat (first | (with_reducible exact Below.refl _ _) | (with_reducible refine bal ?_ _) | (with_reducible refine Below.drew ?_) | (with_reducible refine bdn ?_ _))) hb
    have DX1 : DR w1 s x := DR.keep hbX DX0
    clear DX0
    clear hbX
    have BW1 : Below w.heap.size w w1 := btr (by repeat (first | (with_reducible exact Below.refl _ _) | (with_reducible refine bal ?_ _) | (with_reducible refine Below.drew ?_) | (with_reducible refine bdn ?_ _))) hb
    clear hb
    go_wp2_with fail
    refine (K2.out _ _ (DR.keep (by repeat (first | (with_reducible exact Below.refl _ _) | (with_reducible refine bal ?_ _) | (with_reducible refine Below.drew ?_) | (with_reducible refine bdn ?_ _))) DX1)).mono ?_
    rintro e w2 ⟨rfl, hb⟩
    have hbX : Below w1.heap.size w1 w2 := btr (by repeat (first | (with_reducible exact Below.refl _ _) | (with_reducible refine bal ?_ _) | (with_reducible refine Below.drew ?_) | (with_reducible refine bdn ?_ _))) hb
    have DX2 : DR w2 s x := DR.keep hbX DX1
    clear DX1
    clear hbX
    have BW2 : Below w.heap.size w w2 := btr (by repeat (first | (with_reducible exact BW1) | (with_reducible refine bal ?_ _) | (with_reducible refine Below.drew ?_) | (with_reducible refine bdn ?_ _))) hb
    clear BW1
    clear hb
    go_wp2_with fail
    refine (K2.out _ _ (DR.keep (by repeat (first | (with_reducible exact Below.refl _ _) | (with_reducible refine bal ?_ _) | (with_reducible refine Below.drew ?_) | (with_reducible refine bdn ?_ _))) DX2)).mono ?_
    rintro e w3 ⟨rfl, hb⟩
    have hbX : Below w2.heap.size w2 w3 := btr (by repeat (first | (with_reducible exact Below.refl _ _) | (with_reducible refine bal ?_ _) | (with_reducible refine Below.drew ?_) | (with_reducible refine bdn ?_ _))) hb
    have DX3 : DR w3 s x := DR.keep hbX DX2
    clear DX2
    clear hbX
    have BW3 : Below w.heap.size w w3 := btr (by repeat (first | (with_reducible exact BW2) | (with_reducible refine bal ?_ _) | (with_reducible refine Below.drew ?_) | (with_reducible refine bdn ?_ _))) hb
    clear BW2
    clear hb
    go_wp2_with fail
    refine (K3.out _ _ (DR.keep (by repeat (first | (with_reducible exact Below.refl _ _) | (with_reducible refine bal ?_ _) | (with_reducible refine Below.drew ?_) | (with_reducible refine bdn ?_ _))) DX3)).mono ?_
    rintro e w4 ⟨s2, rfl, hr, hb⟩
    have hbX : Below w3.heap.size w3 w4 := btr (by repeat (first | (with_reducible exact Below.refl _ _) | (with_reducible refine bal ?_ _) | (with_reducible refine Below.drew ?_) | (with_reducible refine bdn ?_ _))) hb
    have DX4 : DR w4 s x := DR.keep hbX DX3
    clear DX3
    clear hbX
    have DO4 : DR w4 s2 o := hr
    clear hr
    have BW4 : Below w.heap.size w w4 := btr (by repeat (first | (with_reducible exact BW3) | (with_reducible refine bal ?_ _) | (with_reducible refine Below.drew ?_) | (with_reducible refine bdn ?_ _))) hb
    clear BW3
    clear hb
    go_wp2_with fail
    refine (K4.out _ _ (DR.keep (by repeat (first | (with_reducible exact Below.refl _ _) | (with_reducible refine bal ?_ _) | (with_reducible refine Below.drew ?_) | (with_reducible refine bdn ?_ _))) DO4)).mono ?_
    rintro e w5 ⟨rfl, hb⟩
    have hbX : Below w4.heap.size w4 w5 := btr (by repeat (first | (with_reducible exact Below.refl _ _) | (with_reducible refine bal ?_ _) | (with_reducible refine Below.drew ?_) | (with_reducible refine bdn ?_ _))) hb
    have DX5 : DR w5 s x := DR.keep hbX DX4
    have DO5 : DR w5 s2 o := DR.keep hbX DO4
    clear DX4 DO4
    clear hbX
    have BW5 : Below w.heap.size w w5 := btr (by repeat (first | (with_reducible exact BW4) | (with_reducible refine bal ?_ _) | (with_reducible refine Below.drew ?_) | (with_reducible refine bdn ?_ _))) hb
    clear BW4
    clear hb
    go_wp2_with fail
    refine (K4.out _ _ (DR.keep (by repeat (first | (with_reducible exact Below.refl _ _) | (with_reducible refine bal ?_ _) | (with_reducible refine Below.drew ?_) | (with_reducible refine bdn ?_ _))) DO5)).mono ?_
    rintro e w6 ⟨rfl, hb⟩
    have hbX : Below w5.heap.size w5 w6 := btr (by repeat (first | (with_reducible exact Below.refl _ _) | (with_reducible refine bal ?_ _) | (with_reducible refine Below.drew ?_) | (with_reducible refine bdn ?_ _))) hb
    have DX6 : DR w6 s x := DR.keep hbX DX5
    have DO6 : DR w6 s2 o := DR.keep hbX DO5
    clear DX5 DO5
    clear hbX
    have BW6 : Below w.heap.size w w6 := btr (by repeat (first | (with_reducible exact BW5) | (with_reducible refine bal ?_ _) | (with_reducible refine Below.drew ?_) | (with_reducible refine bdn ?_ _))) hb
    clear BW5
    clear hb
    go_wp2
    first
      | exact bodyPost_ret (v := .tuple #[.int .u64 0, .bool false]) (by simp [results, Tryz.results52, go_sem]) rfl ⟨rfl, by repeat (first | (with_reducible exact BW6) | (with_reducible refine bal ?_ _) | (with_reducible refine Below.drew ?_) | (with_reducible refine bdn ?_ _))⟩
set_option maxHeartbeats 2000000 in
set_option maxRecDepth 100000 in
theorem pack11_top (g : Bool) (s : Value) (x o t L L0 : Nat) (e : Int) (w : World) (hs : DR w s x) (he0 : -2000 ≤ e) (he1 : e ≤ 2000) (ht0 : t ≤ 2000) (hL0 : ((L0 : Int) == 0) = false) (hL : L ≤ 2000) (hl : (L : Int) ≤ 11) (ht : 15 < e + t + L - 1)
    (k1 : ∀ s' W, DR W s' x → Calls Tryz.prog 48 #[s'] W fun e w' => e = .returned (.int .i64 (L0 : Int)) ∧ Below W.heap.size W w')
    (k2 : ∀ s' W, DR W s' x → Calls Tryz.prog 85 #[s'] W fun e w' => e = .returned (.int .i64 (t : Int)) ∧ Below W.heap.size W w')
    (k3 : ∀ s' W, DR W s' x → Calls Tryz.prog 50 #[s', .int .i64 (-(t : Int))] W fun e w' => ∃ s2, e = .returned s2 ∧ DR w' s2 o ∧ Below W.heap.size W w')
    (k4 : ∀ s' W, DR W s' o → Calls Tryz.prog 48 #[s'] W fun e w' => e = .returned (.int .i64 (L : Int)) ∧ Below W.heap.size W w') :
    Calls Tryz.prog 52 #[.bool g, s, .int .i64 e, .int .i64 11, .int .i64 5] w fun e w' => e = .returned (.tuple #[.int .u64 0, .bool false]) ∧ Below w.heap.size w w' := by
  have K1 := Lib.hid k1; have K2 := Lib.hid k2; have K3 := Lib.hid k3; have K4 := Lib.hid k4; clear k1 k2 k3 k4
  have DX0 := hs; clear hs
  cases g
  all_goals
    go_enter Tryz.func52, Tryz.ntmps52
    go_wp2_with fail
    refine (K1.out _ _ (DR.keep (by repeat (first | (with_reducible exact Below.refl _ _) | (with_reducible refine bal ?_ _) | (with_reducible refine Below.drew ?_) | (with_reducible refine bdn ?_ _))) DX0)).mono ?_
    rintro e w1 ⟨rfl, hb⟩
    have hbX : Below w.heap.size w w1 := btr (by repeat (first | (with_reducible exact Below.refl _ _) | (with_reducible refine bal ?_ _) | (with_reducible refine Below.drew ?_) | (with_reducible refine bdn ?_ _))) hb
    have DX1 : DR w1 s x := DR.keep hbX DX0
    clear DX0
    clear hbX
    have BW1 : Below w.heap.size w w1 := btr (by repeat (first | (with_reducible exact Below.refl _ _) | (with_reducible refine bal ?_ _) | (with_reducible refine Below.drew ?_) | (with_reducible refine bdn ?_ _))) hb
    clear hb
    go_wp2_with fail
    refine (K2.out _ _ (DR.keep (by repeat (first | (with_reducible exact Below.refl _ _) | (with_reducible refine bal ?_ _) | (with_reducible refine Below.drew ?_) | (with_reducible refine bdn ?_ _))) DX1)).mono ?_
    rintro e w2 ⟨rfl, hb⟩
    have hbX : Below w1.heap.size w1 w2 := btr (by repeat (first | (with_reducible exact Below.refl _ _) | (with_reducible refine bal ?_ _) | (with_reducible refine Below.drew ?_) | (with_reducible refine bdn ?_ _))) hb
    have DX2 : DR w2 s x := DR.keep hbX DX1
    clear DX1
    clear hbX
    have BW2 : Below w.heap.size w w2 := btr (by repeat (first | (with_reducible exact BW1) | (with_reducible refine bal ?_ _) | (with_reducible refine Below.drew ?_) | (with_reducible refine bdn ?_ _))) hb
    clear BW1
    clear hb
    go_wp2_with fail
    refine (K2.out _ _ (DR.keep (by repeat (first | (with_reducible exact Below.refl _ _) | (with_reducible refine bal ?_ _) | (with_reducible refine Below.drew ?_) | (with_reducible refine bdn ?_ _))) DX2)).mono ?_
    rintro e w3 ⟨rfl, hb⟩
    have hbX : Below w2.heap.size w2 w3 := btr (by repeat (first | (with_reducible exact Below.refl _ _) | (with_reducible refine bal ?_ _) | (with_reducible refine Below.drew ?_) | (with_reducible refine bdn ?_ _))) hb
    have DX3 : DR w3 s x := DR.keep hbX DX2
    clear DX2
    clear hbX
    have BW3 : Below w.heap.size w w3 := btr (by repeat (first | (with_reducible exact BW2) | (with_reducible refine bal ?_ _) | (with_reducible refine Below.drew ?_) | (with_reducible refine bdn ?_ _))) hb
    clear BW2
    clear hb
    go_wp2_with fail
    refine (K3.out _ _ (DR.keep (by repeat (first | (with_reducible exact Below.refl _ _) | (with_reducible refine bal ?_ _) | (with_reducible refine Below.drew ?_) | (with_reducible refine bdn ?_ _))) DX3)).mono ?_
    rintro e w4 ⟨s2, rfl, hr, hb⟩
    have hbX : Below w3.heap.size w3 w4 := btr (by repeat (first | (with_reducible exact Below.refl _ _) | (with_reducible refine bal ?_ _) | (with_reducible refine Below.drew ?_) | (with_reducible refine bdn ?_ _))) hb
    have DX4 : DR w4 s x := DR.keep hbX DX3
    clear DX3
    clear hbX
    have DO4 : DR w4 s2 o := hr
    clear hr
    have BW4 : Below w.heap.size w w4 := btr (by repeat (first | (with_reducible exact BW3) | (with_reducible refine bal ?_ _) | (with_reducible refine Below.drew ?_) | (with_reducible refine bdn ?_ _))) hb
    clear BW3
    clear hb
    go_wp2_with fail
    refine (K4.out _ _ (DR.keep (by repeat (first | (with_reducible exact Below.refl _ _) | (with_reducible refine bal ?_ _) | (with_reducible refine Below.drew ?_) | (with_reducible refine bdn ?_ _))) DO4)).mono ?_
    rintro e w5 ⟨rfl, hb⟩
    have hbX : Below w4.heap.size w4 w5 := btr (by repeat (first | (with_reducible exact Below.refl _ _) | (with_reducible refine bal ?_ _) | (with_reducible refine Below.drew ?_) | (with_reducible refine bdn ?_ _))) hb
    have DX5 : DR w5 s x := DR.keep hbX DX4
    have DO5 : DR w5 s2 o := DR.keep hbX DO4
    clear DX4 DO4
    clear hbX
    have BW5 : Below w.heap.size w w5 := btr (by repeat (first | (with_reducible exact BW4) | (with_reducible refine bal ?_ _) | (with_reducible refine Below.drew ?_) | (with_reducible refine bdn ?_ _))) hb
    clear BW4
    clear hb
    go_wp2_with fail
    refine (K4.out _ _ (DR.keep (by repeat (first | (with_reducible exact Below.refl _ _) | (with_reducible refine bal ?_ _) | (with_reducible refine Below.drew ?_) | (with_reducible refine bdn ?_ _))) DO5)).mono ?_
    rintro e w6 ⟨rfl, hb⟩
    have hbX : Below w5.heap.size w5 w6 := btr (by repeat (first | (with_reducible exact Below.refl _ _) | (with_reducible refine bal ?_ _) | (with_reducible refine Below.drew ?_) | (with_reducible refine bdn ?_ _))) hb
    have DX6 : DR w6 s x := DR.keep hbX DX5
    have DO6 : DR w6 s2 o := DR.keep hbX DO5
    clear DX5 DO5
    clear hbX
    have BW6 : Below w.heap.size w w6 := btr (by repeat (first | (with_reducible exact BW5) | (with_reducible refine bal ?_ _) | (with_reducible refine Below.drew ?_) | (with_reducible refine bdn ?_ _))) hb
    clear BW5
    clear hb
    go_wp2
    first
      | exact bodyPost_ret (v := .tuple #[.int .u64 0, .bool false]) (by simp [results, Tryz.results52, go_sem]) rfl ⟨rfl, by repeat (first | (with_reducible exact BW6) | (with_reducible refine bal ?_ _) | (with_reducible refine Below.drew ?_) | (with_reducible refine bdn ?_ _))⟩
set_option maxHeartbeats 2000000 in
set_option maxRecDepth 100000 in
theorem pack11_low (g : Bool) (s : Value) (x o t L L0 : Nat) (e : Int) (w : World) (hs : DR w s x) (he0 : -2000 ≤ e) (he1 : e ≤ 2000) (ht0 : t ≤ 2000) (hL0 : ((L0 : Int) == 0) = false) (hL : L ≤ 2000) (hl : (L : Int) ≤ 11) (ht : e + t + L - 1 ≤ 15) (hle : e + t < -24)
    (k1 : ∀ s' W, DR W s' x → Calls Tryz.prog 48 #[s'] W fun e w' => e = .returned (.int .i64 (L0 : Int)) ∧ Below W.heap.size W w')
    (k2 : ∀ s' W, DR W s' x → Calls Tryz.prog 85 #[s'] W fun e w' => e = .returned (.int .i64 (t : Int)) ∧ Below W.heap.size W w')
    (k3 : ∀ s' W, DR W s' x → Calls Tryz.prog 50 #[s', .int .i64 (-(t : Int))] W fun e w' => ∃ s2, e = .returned s2 ∧ DR w' s2 o ∧ Below W.heap.size W w')
    (k4 : ∀ s' W, DR W s' o → Calls Tryz.prog 48 #[s'] W fun e w' => e = .returned (.int .i64 (L : Int)) ∧ Below W.heap.size W w') :
    Calls Tryz.prog 52 #[.bool g, s, .int .i64 e, .int .i64 11, .int .i64 5] w fun e w' => e = .returned (.tuple #[.int .u64 0, .bool false]) ∧ Below w.heap.size w w' := by
  have K1 := Lib.hid k1; have K2 := Lib.hid k2; have K3 := Lib.hid k3; have K4 := Lib.hid k4; clear k1 k2 k3 k4
  have DX0 := hs; clear hs
  cases g
  all_goals
    go_enter Tryz.func52, Tryz.ntmps52
    go_wp2_with fail
    refine (K1.out _ _ (DR.keep (by repeat (first | (with_reducible exact Below.refl _ _) | (with_reducible refine bal ?_ _) | (with_reducible refine Below.drew ?_) | (with_reducible refine bdn ?_ _))) DX0)).mono ?_
    rintro e w1 ⟨rfl, hb⟩
    have hbX : Below w.heap.size w w1 := btr (by repeat (first | (with_reducible exact Below.refl _ _) | (with_reducible refine bal ?_ _) | (with_reducible refine Below.drew ?_) | (with_reducible refine bdn ?_ _))) hb
    have DX1 : DR w1 s x := DR.keep hbX DX0
    clear DX0
    clear hbX
    have BW1 : Below w.heap.size w w1 := btr (by repeat (first | (with_reducible exact Below.refl _ _) | (with_reducible refine bal ?_ _) | (with_reducible refine Below.drew ?_) | (with_reducible refine bdn ?_ _))) hb
    clear hb
    go_wp2_with fail
    refine (K2.out _ _ (DR.keep (by repeat (first | (with_reducible exact Below.refl _ _) | (with_reducible refine bal ?_ _) | (with_reducible refine Below.drew ?_) | (with_reducible refine bdn ?_ _))) DX1)).mono ?_
    rintro e w2 ⟨rfl, hb⟩
    have hbX : Below w1.heap.size w1 w2 := btr (by repeat (first | (with_reducible exact Below.refl _ _) | (with_reducible refine bal ?_ _) | (with_reducible refine Below.drew ?_) | (with_reducible refine bdn ?_ _))) hb
    have DX2 : DR w2 s x := DR.keep hbX DX1
    clear DX1
    clear hbX
    have BW2 : Below w.heap.size w w2 := btr (by repeat (first | (with_reducible exact BW1) | (with_reducible refine bal ?_ _) | (with_reducible refine Below.drew ?_) | (with_reducible refine bdn ?_ _))) hb
    clear BW1
    clear hb
    go_wp2_with fail
    refine (K2.out _ _ (DR.keep (by repeat (first | (with_reducible exact Below.refl _ _) | (with_reducible refine bal ?_ _) | (with_reducible refine Below.drew ?_) | (with_reducible refine bdn ?_ _))) DX2)).mono ?_
    rintro e w3 ⟨rfl, hb⟩
    have hbX : Below w2.heap.size w2 w3 := btr (by repeat (first | (with_reducible exact Below.refl _ _) | (with_reducible refine bal ?_ _) | (with_reducible refine Below.drew ?_) | (with_reducible refine bdn ?_ _))) hb
    have DX3 : DR w3 s x := DR.keep hbX DX2
    clear DX2
    clear hbX
    have BW3 : Below w.heap.size w w3 := btr (by repeat (first | (with_reducible exact BW2) | (with_reducible refine bal ?_ _) | (with_reducible refine Below.drew ?_) | (with_reducible refine bdn ?_ _))) hb
    clear BW2
    clear hb
    go_wp2_with fail
    refine (K3.out _ _ (DR.keep (by repeat (first | (with_reducible exact Below.refl _ _) | (with_reducible refine bal ?_ _) | (with_reducible refine Below.drew ?_) | (with_reducible refine bdn ?_ _))) DX3)).mono ?_
    rintro e w4 ⟨s2, rfl, hr, hb⟩
    have hbX : Below w3.heap.size w3 w4 := btr (by repeat (first | (with_reducible exact Below.refl _ _) | (with_reducible refine bal ?_ _) | (with_reducible refine Below.drew ?_) | (with_reducible refine bdn ?_ _))) hb
    have DX4 : DR w4 s x := DR.keep hbX DX3
    clear DX3
    clear hbX
    have DO4 : DR w4 s2 o := hr
    clear hr
    have BW4 : Below w.heap.size w w4 := btr (by repeat (first | (with_reducible exact BW3) | (with_reducible refine bal ?_ _) | (with_reducible refine Below.drew ?_) | (with_reducible refine bdn ?_ _))) hb
    clear BW3
    clear hb
    go_wp2_with fail
    refine (K4.out _ _ (DR.keep (by repeat (first | (with_reducible exact Below.refl _ _) | (with_reducible refine bal ?_ _) | (with_reducible refine Below.drew ?_) | (with_reducible refine bdn ?_ _))) DO4)).mono ?_
    rintro e w5 ⟨rfl, hb⟩
    have hbX : Below w4.heap.size w4 w5 := btr (by repeat (first | (with_reducible exact Below.refl _ _) | (with_reducible refine bal ?_ _) | (with_reducible refine Below.drew ?_) | (with_reducible refine bdn ?_ _))) hb
    have DX5 : DR w5 s x := DR.keep hbX DX4
    have DO5 : DR w5 s2 o := DR.keep hbX DO4
    clear DX4 DO4
    clear hbX
    have BW5 : Below w.heap.size w w5 := btr (by repeat (first | (with_reducible exact BW4) | (with_reducible refine bal ?_ _) | (with_reducible refine Below.drew ?_) | (with_reducible refine bdn ?_ _))) hb
    clear BW4
    clear hb
    go_wp2_with fail
    refine (K4.out _ _ (DR.keep (by repeat (first | (with_reducible exact Below.refl _ _) | (with_reducible refine bal ?_ _) | (with_reducible refine Below.drew ?_) | (with_reducible refine bdn ?_ _))) DO5)).mono ?_
    rintro e w6 ⟨rfl, hb⟩
    have hbX : Below w5.heap.size w5 w6 := btr (by repeat (first | (with_reducible exact Below.refl _ _) | (with_reducible refine bal ?_ _) | (with_reducible refine Below.drew ?_) | (with_reducible refine bdn ?_ _))) hb
    have DX6 : DR w6 s x := DR.keep hbX DX5
    have DO6 : DR w6 s2 o := DR.keep hbX DO5
    clear DX5 DO5
    clear hbX
    have BW6 : Below w.heap.size w w6 := btr (by repeat (first | (with_reducible exact BW5) | (with_reducible refine bal ?_ _) | (with_reducible refine Below.drew ?_) | (with_reducible refine bdn ?_ _))) hb
    clear BW5
    clear hb
    go_wp2
    first
      | exact bodyPost_ret (v := .tuple #[.int .u64 0, .bool false]) (by simp [results, Tryz.results52, go_sem]) rfl ⟨rfl, by repeat (first | (with_reducible exact BW6) | (with_reducible refine bal ?_ _) | (with_reducible refine Below.drew ?_) | (with_reducible refine bdn ?_ _))⟩
end Go.Proofs.YtpgpodjmdflmeaaGreatDoor
end
