/-
  FltTold WidthsPack WidthsAll, one behind the other: a claim holds at most 60 files.
-/
import Derived.Test.YtfaaagmjmljhiaaGreatDoorGF
import Derived.Test.YtfaaagmjmljhiaaGreatDoorGC
import Derived.Test.YtfaaagmjmljhiaaGreatDoorGL
section
namespace Go.Proofs.YtfaaagmjmljhiaaGreatDoor
open Go.RowKit Go.Shelf Go.Sort
attribute [local go_sem ↓] eql_nat neq_nat eql_int5 neq_int5

end Go.Proofs.YtfaaagmjmljhiaaGreatDoor
end
section
section
namespace Go.Proofs.YtfaaagmjmljhiaaGreatDoor
open Go.RowKit Go.Shelf

end Go.Proofs.YtfaaagmjmljhiaaGreatDoor
end
section
namespace Go.Proofs.YtfaaagmjmljhiaaGreatDoor
open Go.RowKit Go.Shelf

set_option maxHeartbeats 2000000 in
set_option maxRecDepth 100000 in
theorem pack24_zero (g : Bool) (s : Value) (x : Nat) (e : Int) (w : World) (hs : DR w s x)
    (k1 : ∀ s' W, DR W s' x → Calls Tryz.prog 64 #[s'] W fun e w' => e = .returned (.int .i64 0) ∧ Below W.heap.size W w') :
    Calls Tryz.prog 138 #[.bool g, s, .int .i64 e, .int .i64 24, .int .i64 8] w fun e w' => e = .returned (.tuple #[.int .u64 (if g then 2147483648 else 0), .bool true]) ∧ Below w.heap.size w w' := by
  have K1 := Lib.hid k1; clear k1
  have DX0 := hs; clear hs
  cases g
  all_goals
    go_enter Tryz.func138, Tryz.ntmps138
    go_wp2_with fail
    refine (K1.out _ _ (DR.keep (by repeat (first | (with_reducible exact Below.refl _ _) | (with_reducible refine bal ?_ _) | (with_reducible refine Below.drew ?_) | (with_reducible refine bdn ?_ _))) DX0)).mono ?_
    rintro e w1 ⟨rfl, hb⟩
    have hbX : Below w.heap.size w w1 := btr (by repeat (first | (with_reducible exact Below.refl _ _) | (with_reducible refine bal ?_ _) | (with_reducible refine Below.drew ?_) | (with_reducible refine bdn ?_ _))) hb
    have DX1 : DR w1 s x := DR.keep hbX DX0
    clear DX0
    clear hbX
    have BW1 : Below w.heap.size w w1 := btr (by repeat (first | (with_reducible exact Below.refl _ _) | (with_reducible refine bal ?_ _) | (with_reducible refine Below.drew ?_) | (with_reducible refine bdn ?_ _))) hb
    clear hb
    go_wp2
    first
      | exact bodyPost_ret (v := .tuple #[.int .u64 0, .bool true]) (by simp [results, Tryz.results138, go_sem]) rfl ⟨rfl, by repeat (first | (with_reducible exact BW1) | (with_reducible refine bal ?_ _) | (with_reducible refine Below.drew ?_) | (with_reducible refine bdn ?_ _))⟩
      | exact bodyPost_ret (v := .tuple #[.int .u64 2147483648, .bool true]) (by simp [results, Tryz.results138, go_sem]) rfl ⟨rfl, by repeat (first | (with_reducible exact BW1) | (with_reducible refine bal ?_ _) | (with_reducible refine Below.drew ?_) | (with_reducible refine bdn ?_ _))⟩
set_option maxHeartbeats 2000000 in
set_option maxRecDepth 100000 in
theorem pack24_norm (g : Bool) (s : Value) (x o t L L0 : Nat) (e : Int) (r : Int) (w : World) (hs : DR w s x) (he0 : -2000 ≤ e) (he1 : e ≤ 2000) (ht0 : t ≤ 2000) (hL0 : ((L0 : Int) == 0) = false) (hL : L ≤ 2000) (hl : (L : Int) ≤ 24) (ht : e + t + L - 1 ≤ 127) (ht2 : -126 ≤ e + t + L - 1) (hle : -149 ≤ e + t)
    (k1 : ∀ s' W, DR W s' x → Calls Tryz.prog 64 #[s'] W fun e w' => e = .returned (.int .i64 (L0 : Int)) ∧ Below W.heap.size W w')
    (k2 : ∀ s' W, DR W s' x → Calls Tryz.prog 162 #[s'] W fun e w' => e = .returned (.int .i64 (t : Int)) ∧ Below W.heap.size W w')
    (k3 : ∀ s' W, DR W s' x → Calls Tryz.prog 163 #[s', .int .i64 (-(t : Int))] W fun e w' => ∃ s2, e = .returned s2 ∧ DR w' s2 o ∧ Below W.heap.size W w')
    (k4 : ∀ s' W, DR W s' o → Calls Tryz.prog 64 #[s'] W fun e w' => e = .returned (.int .i64 (L : Int)) ∧ Below W.heap.size W w')
    (k5 : ∀ s' W, DR W s' o → Calls Tryz.prog 63 #[s'] W fun e w' => e = .returned (.tuple #[N4 o, .bool true]) ∧ Below W.heap.size W w')
    (hr : bits .or .u64 (bits .or .u64 (if g then 2147483648 else 0) ((e + t + L - 1 + 127) * 8388608)) (bits .and .u64 (IntKind.u64.wrap (lb 0 o * 2 ^ (24 - L))) 8388607) = r) :
    Calls Tryz.prog 138 #[.bool g, s, .int .i64 e, .int .i64 24, .int .i64 8] w fun e w' => e = .returned (.tuple #[.int .u64 r, .bool true]) ∧ Below w.heap.size w w' := by
  have K1 := Lib.hid k1; have K2 := Lib.hid k2; have K3 := Lib.hid k3; have K4 := Lib.hid k4; have K5 := Lib.hid k5; clear k1 k2 k3 k4 k5
  have HR := Lib.hid hr; clear hr
  have DX0 := hs; clear hs
  cases g
  all_goals
    simp only [if_true, if_false, Bool.false_eq_true] at HR
    go_enter Tryz.func138, Tryz.ntmps138
    go_wp2_with fail
    refine (K1.out _ _ (DR.keep (by repeat (first | (with_reducible exact Below.refl _ _) | (with_reducible refine bal ?_ _) | (with_reducible refine Below.drew ?_) | (with_reducible refine bdn ?_ _))) DX0)).mono ?_
    rintro e w1 ⟨rfl, hb⟩
    have hbX : Below w.heap.size w w1 := btr (by repeat (first | (with_reducible exact Below.refl _ _) | (with_reducible refine bal ?_ _) | (with_reducible refine Below.drew ?_) | (with_reducible refine bdn ?_ _))) hb
    have DX1 : DR w1 s x := DR.keep hbX DX0
    clear DX0
    clear hbX
    have BW1 : Below w.heap.size w w1 := btr (by repeat (first | (with_reducible exact Below.refl _ _) | (with_reducible refine bal ?_ _) | (with_reducible refine Below.drew ?_) | (with_reducible refine bdn ?_ _))) hb
    clear hb
    go_wp2_with fail
    refine (K2.out _ _ (DR.keep (by repeat (first | (with_reducible exact Below.refl _ _) | (with_reducible refine bal ?_ _) | (with_reducible refine Below.drew ?_) | (with_reducible refine bdn ?_ _))) DX1)).mono ?_
    rintro e w2 ⟨rfl, hb⟩
    have hbX : Below w1.heap.size w1 w2 := btr (by repeat (first | (with_reducible exact Below.refl _ _) | (with_reducible refine bal ?_ _) | (with_reducible refine Below.drew ?_) | (with_reducible refine bdn ?_ _))) hb
    have DX2 : DR w2 s x := DR.keep hbX DX1
    clear DX1
    clear hbX
    have BW2 : Below w.heap.size w w2 := btr (by repeat (first | (with_reducible exact BW1) | (with_reducible refine bal ?_ _) | (with_reducible refine Below.drew ?_) | (with_reducible refine bdn ?_ _))) hb
    clear BW1
    clear hb
    go_wp2_with fail
    refine (K2.out _ _ (DR.keep (by repeat (first | (with_reducible exact Below.refl _ _) | (with_reducible refine bal ?_ _) | (with_reducible refine Below.drew ?_) | (with_reducible refine bdn ?_ _))) DX2)).mono ?_
    rintro e w3 ⟨rfl, hb⟩
    have hbX : Below w2.heap.size w2 w3 := btr (by repeat (first | (with_reducible exact Below.refl _ _) | (with_reducible refine bal ?_ _) | (with_reducible refine Below.drew ?_) | (with_reducible refine bdn ?_ _))) hb
    have DX3 : DR w3 s x := DR.keep hbX DX2
    clear DX2
    clear hbX
    have BW3 : Below w.heap.size w w3 := btr (by repeat (first | (with_reducible exact BW2) | (with_reducible refine bal ?_ _) | (with_reducible refine Below.drew ?_) | (with_reducible refine bdn ?_ _))) hb
    clear BW2
    clear hb
    go_wp2_with fail
    refine (K3.out _ _ (DR.keep (by repeat (first | (with_reducible exact Below.refl _ _) | (with_reducible refine bal ?_ _) | (with_reducible refine Below.drew ?_) | (with_reducible refine bdn ?_ _))) DX3)).mono ?_
    rintro e w4 ⟨s2, rfl, hr, hb⟩
    have hbX : Below w3.heap.size w3 w4 := btr (by repeat (first | (with_reducible exact Below.refl _ _) | (with_reducible refine bal ?_ _) | (with_reducible refine Below.drew ?_) | (with_reducible refine bdn ?_ _))) hb
    have DX4 : DR w4 s x := DR.keep hbX DX3
    clear DX3
    clear hbX
    have DO4 : DR w4 s2 o := hr
    clear hr
    have BW4 : Below w.heap.size w w4 := btr (by repeat (first | (with_reducible exact BW3) | (with_reducible refine bal ?_ _) | (with_reducible refine Below.drew ?_) | (with_reducible refine bdn ?_ _))) hb
    clear BW3
    clear hb
    go_wp2_with fail
    refine (K4.out _ _ (DR.keep (by repeat (first | (with_reducible exact Below.refl _ _) | (with_reducible refine bal ?_ _) | (with_reducible refine Below.drew ?_) | (with_reducible refine bdn ?_ _))) DO4)).mono ?_
    rintro e w5 ⟨rfl, hb⟩
    have hbX : Below w4.heap.size w4 w5 := btr (by repeat (first | (with_reducible exact Below.refl _ _) | (with_reducible refine bal ?_ _) | (with_reducible refine Below.drew ?_) | (with_reducible refine bdn ?_ _))) hb
    have DX5 : DR w5 s x := DR.keep hbX DX4
    have DO5 : DR w5 s2 o := DR.keep hbX DO4
    clear DX4 DO4
    clear hbX
    have BW5 : Below w.heap.size w w5 := btr (by repeat (first | (with_reducible exact BW4) | (with_reducible refine bal ?_ _) | (with_reducible refine Below.drew ?_) | (with_reducible refine bdn ?_ _))) hb
    clear BW4
    clear hb
    go_wp2_with fail
    refine (K4.out _ _ (DR.keep (by repeat (first | (with_reducible exact Below.refl _ _) | (with_reducible refine bal ?_ _) | (with_reducible refine Below.drew ?_) | (with_reducible refine bdn ?_ _))) DO5)).mono ?_
    rintro e w6 ⟨rfl, hb⟩
    have hbX : Below w5.heap.size w5 w6 := btr (by repeat (first | (with_reducible exact Below.refl _ _) | (with_reducible refine bal ?_ _) | (with_reducible refine Below.drew ?_) | (with_reducible refine bdn ?_ _))) hb
    have DX6 : DR w6 s x := DR.keep hbX DX5
    have DO6 : DR w6 s2 o := DR.keep hbX DO5
    clear DX5 DO5
    clear hbX
    have BW6 : Below w.heap.size w w6 := btr (by repeat (first | (with_reducible exact BW5) | (with_reducible refine bal ?_ _) | (with_reducible refine Below.drew ?_) | (with_reducible refine bdn ?_ _))) hb
    clear BW5
    clear hb
    go_wp2_with fail
    refine (K5.out _ _ (DR.keep (by repeat (first | (with_reducible exact Below.refl _ _) | (with_reducible refine bal ?_ _) | (with_reducible refine Below.drew ?_) | (with_reducible refine bdn ?_ _))) DO6)).mono ?_
    rintro e w7 ⟨rfl, hb⟩
    have hbX : Below w6.heap.size w6 w7 := btr (by repeat (first | (with_reducible exact Below.refl _ _) | (with_reducible refine bal ?_ _) | (with_reducible refine Below.drew ?_) | (with_reducible refine bdn ?_ _))) hb
    have DX7 : DR w7 s x := DR.keep hbX DX6
    have DO7 : DR w7 s2 o := DR.keep hbX DO6
    clear DX6 DO6
    clear hbX
    have BW7 : Below w.heap.size w w7 := btr (by repeat (first | (with_reducible exact BW6) | (with_reducible refine bal ?_ _) | (with_reducible refine Below.drew ?_) | (with_reducible refine bdn ?_ _))) hb
    clear BW6
    clear hb
    go_upto_region 14 with (fail)
    go_name_world w8 hw8
    have BW8 : Below w.heap.size w w8 := by rw [← hw8]; repeat (first | (with_reducible exact BW7) | (with_reducible refine bal ?_ _) | (with_reducible refine Below.drew ?_) | (with_reducible refine bdn ?_ _))
    have hbX : Below w7.heap.size w7 w8 := by rw [← hw8]; repeat (first | (with_reducible exact Below.refl _ _) | (with_reducible refine bal ?_ _) | (with_reducible refine Below.drew ?_) | (with_reducible refine bdn ?_ _))
    have DX8 : DR w8 s x := DR.keep hbX DX7
    have DO8 : DR w8 s2 o := DR.keep hbX DO7
    clear hbX DX7 DO7
    have N8 : Row4 w8 w7.heap.size (.int .u64 (lb 0 o)) (.int .u64 (lb 1 o)) (.int .u64 (lb 2 o)) (.int .u64 (lb 3 o)) := by rw [← hw8]; exact (by repeat (first | (with_reducible exact Row4.new _ _ _ _ _) | ((with_reducible refine Row4.new' _ ?_ _ _ _ _); (simp; done)) | (with_reducible refine Row4.alloc ?_ _) | (with_reducible refine Row4.drew ?_)))
    clear BW7
    clear hw8
    obtain ⟨Nc0, Nc1, Nc2, Nc3⟩ := N8.four
    obtain ⟨Nf0, Nf1, Nf2, Nf3⟩ := N8.free4
    go_wp2_with fail
    refine (K4.out _ _ (DR.keep (by repeat (first | (with_reducible exact Below.refl _ _) | (with_reducible refine bal ?_ _) | (with_reducible refine Below.drew ?_) | (with_reducible refine bdn ?_ _))) DO8)).mono ?_
    rintro e w9 ⟨rfl, hb⟩
    have hbX : Below w8.heap.size w8 w9 := btr (by repeat (first | (with_reducible exact Below.refl _ _) | (with_reducible refine bal ?_ _) | (with_reducible refine Below.drew ?_) | (with_reducible refine bdn ?_ _))) hb
    have DX9 : DR w9 s x := DR.keep hbX DX8
    have DO9 : DR w9 s2 o := DR.keep hbX DO8
    clear DX8 DO8
    clear hbX
    have BW9 : Below w.heap.size w w9 := btr (by repeat (first | (with_reducible exact BW8) | (with_reducible refine bal ?_ _) | (with_reducible refine Below.drew ?_) | (with_reducible refine bdn ?_ _))) hb
    have N9 : Row4 w9 w7.heap.size (.int .u64 (lb 0 o)) (.int .u64 (lb 1 o)) (.int .u64 (lb 2 o)) (.int .u64 (lb 3 o)) := Row4.keep hb (by repeat (first | (with_reducible exact N8) | (with_reducible refine Row4.alloc ?_ _) | (with_reducible refine Row4.drew ?_)))
    clear N8
    clear BW8
    clear hb
    have hr := HR.out
    go_wp2
    first
      | exact bodyPost_ret (v := .tuple #[.int .u64 r, .bool true]) (by simp [results, Tryz.results138, go_sem]) rfl ⟨rfl, by repeat (first | (with_reducible exact BW9) | (with_reducible refine bal ?_ _) | (with_reducible refine Below.drew ?_) | (with_reducible refine bdn ?_ _))⟩
set_option maxHeartbeats 2000000 in
set_option maxRecDepth 100000 in
theorem pack24_sub (g : Bool) (s : Value) (x o t L L0 : Nat) (e : Int) (r : Int) (w : World) (hs : DR w s x) (he0 : -2000 ≤ e) (he1 : e ≤ 2000) (ht0 : t ≤ 2000) (hL0 : ((L0 : Int) == 0) = false) (hL : L ≤ 2000) (hl : (L : Int) ≤ 24) (ht : e + t + L - 1 < -126) (hle : -149 ≤ e + t)
    (k1 : ∀ s' W, DR W s' x → Calls Tryz.prog 64 #[s'] W fun e w' => e = .returned (.int .i64 (L0 : Int)) ∧ Below W.heap.size W w')
    (k2 : ∀ s' W, DR W s' x → Calls Tryz.prog 162 #[s'] W fun e w' => e = .returned (.int .i64 (t : Int)) ∧ Below W.heap.size W w')
    (k3 : ∀ s' W, DR W s' x → Calls Tryz.prog 163 #[s', .int .i64 (-(t : Int))] W fun e w' => ∃ s2, e = .returned s2 ∧ DR w' s2 o ∧ Below W.heap.size W w')
    (k4 : ∀ s' W, DR W s' o → Calls Tryz.prog 64 #[s'] W fun e w' => e = .returned (.int .i64 (L : Int)) ∧ Below W.heap.size W w')
    (k5 : ∀ s' W, DR W s' o → Calls Tryz.prog 63 #[s'] W fun e w' => e = .returned (.tuple #[N4 o, .bool true]) ∧ Below W.heap.size W w')
    (hr : bits .or .u64 (if g then 2147483648 else 0) (IntKind.u64.wrap (lb 0 o * 2 ^ (e + t + 149).toNat)) = r) :
    Calls Tryz.prog 138 #[.bool g, s, .int .i64 e, .int .i64 24, .int .i64 8] w fun e w' => e = .returned (.tuple #[.int .u64 r, .bool true]) ∧ Below w.heap.size w w' := by
  have K1 := Lib.hid k1; have K2 := Lib.hid k2; have K3 := Lib.hid k3; have K4 := Lib.hid k4; have K5 := Lib.hid k5; clear k1 k2 k3 k4 k5
  have HR := Lib.hid hr; clear hr
  have DX0 := hs; clear hs
  cases g
  all_goals
    simp only [if_true, if_false, Bool.false_eq_true] at HR
    go_enter Tryz.func138, Tryz.ntmps138
    go_wp2_with fail
    refine (K1.out _ _ (DR.keep (by repeat (first | (with_reducible exact Below.refl _ _) | (with_reducible refine bal ?_ _) | (with_reducible refine Below.drew ?_) | (with_reducible refine bdn ?_ _))) DX0)).mono ?_
    rintro e w1 ⟨rfl, hb⟩
    have hbX : Below w.heap.size w w1 := btr (by repeat (first | (with_reducible exact Below.refl _ _) | (with_reducible refine bal ?_ _) | (with_reducible refine Below.drew ?_) | (with_reducible refine bdn ?_ _))) hb
    have DX1 : DR w1 s x := DR.keep hbX DX0
    clear DX0
    clear hbX
    have BW1 : Below w.heap.size w w1 := btr (by repeat (first | (with_reducible exact Below.refl _ _) | (with_reducible refine bal ?_ _) | (with_reducible refine Below.drew ?_) | (with_reducible refine bdn ?_ _))) hb
    clear hb
    go_wp2_with fail
    refine (K2.out _ _ (DR.keep (by repeat (first | (with_reducible exact Below.refl _ _) | (with_reducible refine bal ?_ _) | (with_reducible refine Below.drew ?_) | (with_reducible refine bdn ?_ _))) DX1)).mono ?_
    rintro e w2 ⟨rfl, hb⟩
    have hbX : Below w1.heap.size w1 w2 := btr (by repeat (first | (with_reducible exact Below.refl _ _) | (with_reducible refine bal ?_ _) | (with_reducible refine Below.drew ?_) | (with_reducible refine bdn ?_ _))) hb
    have DX2 : DR w2 s x := DR.keep hbX DX1
    clear DX1
    clear hbX
    have BW2 : Below w.heap.size w w2 := btr (by repeat (first | (with_reducible exact BW1) | (with_reducible refine bal ?_ _) | (with_reducible refine Below.drew ?_) | (with_reducible refine bdn ?_ _))) hb
    clear BW1
    clear hb
    go_wp2_with fail
    refine (K2.out _ _ (DR.keep (by repeat (first | (with_reducible exact Below.refl _ _) | (with_reducible refine bal ?_ _) | (with_reducible refine Below.drew ?_) | (with_reducible refine bdn ?_ _))) DX2)).mono ?_
    rintro e w3 ⟨rfl, hb⟩
    have hbX : Below w2.heap.size w2 w3 := btr (by repeat (first | (with_reducible exact Below.refl _ _) | (with_reducible refine bal ?_ _) | (with_reducible refine Below.drew ?_) | (with_reducible refine bdn ?_ _))) hb
    have DX3 : DR w3 s x := DR.keep hbX DX2
    clear DX2
    clear hbX
    have BW3 : Below w.heap.size w w3 := btr (by repeat (first | (with_reducible exact BW2) | (with_reducible refine bal ?_ _) | (with_reducible refine Below.drew ?_) | (with_reducible refine bdn ?_ _))) hb
    clear BW2
    clear hb
    go_wp2_with fail
    refine (K3.out _ _ (DR.keep (by repeat (first | (with_reducible exact Below.refl _ _) | (with_reducible refine bal ?_ _) | (with_reducible refine Below.drew ?_) | (with_reducible refine bdn ?_ _))) DX3)).mono ?_
    rintro e w4 ⟨s2, rfl, hr, hb⟩
    have hbX : Below w3.heap.size w3 w4 := btr (by repeat (first | (with_reducible exact Below.refl _ _) | (with_reducible refine bal ?_ _) | (with_reducible refine Below.drew ?_) | (with_reducible refine bdn ?_ _))) hb
    have DX4 : DR w4 s x := DR.keep hbX DX3
    clear DX3
    clear hbX
    have DO4 : DR w4 s2 o := hr
    clear hr
    have BW4 : Below w.heap.size w w4 := btr (by repeat (first | (with_reducible exact BW3) | (with_reducible refine bal ?_ _) | (with_reducible refine Below.drew ?_) | (with_reducible refine bdn ?_ _))) hb
    clear BW3
    clear hb
    go_wp2_with fail
    refine (K4.out _ _ (DR.keep (by repeat (first | (with_reducible exact Below.refl _ _) | (with_reducible refine bal ?_ _) | (with_reducible refine Below.drew ?_) | (with_reducible refine bdn ?_ _))) DO4)).mono ?_
    rintro e w5 ⟨rfl, hb⟩
    have hbX : Below w4.heap.size w4 w5 := btr (by repeat (first | (with_reducible exact Below.refl _ _) | (with_reducible refine bal ?_ _) | (with_reducible refine Below.drew ?_) | (with_reducible refine bdn ?_ _))) hb
    have DX5 : DR w5 s x := DR.keep hbX DX4
    have DO5 : DR w5 s2 o := DR.keep hbX DO4
    clear DX4 DO4
    clear hbX
    have BW5 : Below w.heap.size w w5 := btr (by repeat (first | (with_reducible exact BW4) | (with_reducible refine bal ?_ _) | (with_reducible refine Below.drew ?_) | (with_reducible refine bdn ?_ _))) hb
    clear BW4
    clear hb
    go_wp2_with fail
    refine (K4.out _ _ (DR.keep (by repeat (first | (with_reducible exact Below.refl _ _) | (with_reducible refine bal ?_ _) | (with_reducible refine Below.drew ?_) | (with_reducible refine bdn ?_ _))) DO5)).mono ?_
    rintro e w6 ⟨rfl, hb⟩
    have hbX : Below w5.heap.size w5 w6 := btr (by repeat (first | (with_reducible exact Below.refl _ _) | (with_reducible refine bal ?_ _) | (with_reducible refine Below.drew ?_) | (with_reducible refine bdn ?_ _))) hb
    have DX6 : DR w6 s x := DR.keep hbX DX5
    have DO6 : DR w6 s2 o := DR.keep hbX DO5
    clear DX5 DO5
    clear hbX
    have BW6 : Below w.heap.size w w6 := btr (by repeat (first | (with_reducible exact BW5) | (with_reducible refine bal ?_ _) | (with_reducible refine Below.drew ?_) | (with_reducible refine bdn ?_ _))) hb
    clear BW5
    clear hb
    go_wp2_with fail
    refine (K5.out _ _ (DR.keep (by repeat (first | (with_reducible exact Below.refl _ _) | (with_reducible refine bal ?_ _) | (with_reducible refine Below.drew ?_) | (with_reducible refine bdn ?_ _))) DO6)).mono ?_
    rintro e w7 ⟨rfl, hb⟩
    have hbX : Below w6.heap.size w6 w7 := btr (by repeat (first | (with_reducible exact Below.refl _ _) | (with_reducible refine bal ?_ _) | (with_reducible refine Below.drew ?_) | (with_reducible refine bdn ?_ _))) hb
    have DX7 : DR w7 s x := DR.keep hbX DX6
    have DO7 : DR w7 s2 o := DR.keep hbX DO6
    clear DX6 DO6
    clear hbX
    have BW7 : Below w.heap.size w w7 := btr (by repeat (first | (with_reducible exact BW6) | (with_reducible refine bal ?_ _) | (with_reducible refine Below.drew ?_) | (with_reducible refine bdn ?_ _))) hb
    clear BW6
    clear hb
    go_upto_region 14 with (fail)
    go_name_world w8 hw8
    have BW8 : Below w.heap.size w w8 := by rw [← hw8]; repeat (first | (with_reducible exact BW7) | (with_reducible refine bal ?_ _) | (with_reducible refine Below.drew ?_) | (with_reducible refine bdn ?_ _))
    have hbX : Below w7.heap.size w7 w8 := by rw [← hw8]; repeat (first | (with_reducible exact Below.refl _ _) | (with_reducible refine bal ?_ _) | (with_reducible refine Below.drew ?_) | (with_reducible refine bdn ?_ _))
    have DX8 : DR w8 s x := DR.keep hbX DX7
    have DO8 : DR w8 s2 o := DR.keep hbX DO7
    clear hbX DX7 DO7
    have N8 : Row4 w8 w7.heap.size (.int .u64 (lb 0 o)) (.int .u64 (lb 1 o)) (.int .u64 (lb 2 o)) (.int .u64 (lb 3 o)) := by rw [← hw8]; exact (by repeat (first | (with_reducible exact Row4.new _ _ _ _ _) | ((with_reducible refine Row4.new' _ ?_ _ _ _ _); (simp; done)) | (with_reducible refine Row4.alloc ?_ _) | (with_reducible refine Row4.drew ?_)))
    clear BW7
    clear hw8
    obtain ⟨Nc0, Nc1, Nc2, Nc3⟩ := N8.four
    obtain ⟨Nf0, Nf1, Nf2, Nf3⟩ := N8.free4
    have hr := HR.out
    go_wp2
    first
      | exact bodyPost_ret (v := .tuple #[.int .u64 r, .bool true]) (by simp [results, Tryz.results138, go_sem]) rfl ⟨rfl, by repeat (first | (with_reducible exact BW8) | (with_reducible refine bal ?_ _) | (with_reducible refine Below.drew ?_) | (with_reducible refine bdn ?_ _))⟩
set_option maxHeartbeats 2000000 in
set_option maxRecDepth 100000 in
theorem pack24_long (g : Bool) (s : Value) (x o t L L0 : Nat) (e : Int) (w : World) (hs : DR w s x) (he0 : -2000 ≤ e) (he1 : e ≤ 2000) (ht0 : t ≤ 2000) (hL0 : ((L0 : Int) == 0) = false) (hL : L ≤ 2000) (hl : 24 < (L : Int))
    (k1 : ∀ s' W, DR W s' x → Calls Tryz.prog 64 #[s'] W fun e w' => e = .returned (.int .i64 (L0 : Int)) ∧ Below W.heap.size W w')
    (k2 : ∀ s' W, DR W s' x → Calls Tryz.prog 162 #[s'] W fun e w' => e = .returned (.int .i64 (t : Int)) ∧ Below W.heap.size W w')
    (k3 : ∀ s' W, DR W s' x → Calls Tryz.prog 163 #[s', .int .i64 (-(t : Int))] W fun e w' => ∃ s2, e = .returned s2 ∧ DR w' s2 o ∧ Below W.heap.size W w')
    (k4 : ∀ s' W, DR W s' o → Calls Tryz.prog 64 #[s'] W fun e w' => e = .returned (.int .i64 (L : Int)) ∧ Below W.heap.size W w') :
    Calls Tryz.prog 138 #[.bool g, s, .int .i64 e, .int .i64 24, .int .i64 8] w fun e w' => e = .returned (.tuple #[.int .u64 0, .bool false]) ∧ Below w.heap.size w w' := by
  have K1 := Lib.hid k1; have K2 := Lib.hid k2; have K3 := Lib.hid k3; have K4 := Lib.hid k4; clear k1 k2 k3 k4
  have DX0 := hs; clear hs
  cases g
  all_goals
    go_enter Tryz.func138, Tryz.ntmps138
    go_wp2_with fail
    refine (K1.out _ _ (DR.keep (by repeat (first | (with_reducible exact Below.refl _ _) | (with_reducible refine bal ?_ _) | (with_reducible refine Below.drew ?_) | (with_reducible refine bdn ?_ _))) DX0)).mono ?_
    rintro e w1 ⟨rfl, hb⟩
    have hbX : Below w.heap.size w w1 := btr (by repeat (first | (with_reducible exact Below.refl _ _) | (with_reducible refine bal ?_ _) | (with_reducible refine Below.drew ?_) | (with_reducible refine bdn ?_ _))) hb
    have DX1 : DR w1 s x := DR.keep hbX DX0
    clear DX0
    clear hbX
    have BW1 : Below w.heap.size w w1 := btr (by repeat (first | (with_reducible exact Below.refl _ _) | (with_reducible refine bal ?_ _) | (with_reducible refine Below.drew ?_) | (with_reducible refine bdn ?_ _))) hb
    clear hb
    go_wp2_with fail
    refine (K2.out _ _ (DR.keep (by repeat (first | (with_reducible exact Below.refl _ _) | (with_reducible refine bal ?_ _) | (with_reducible refine Below.drew ?_) | (with_reducible refine bdn ?_ _))) DX1)).mono ?_
    rintro e w2 ⟨rfl, hb⟩
    have hbX : Below w1.heap.size w1 w2 := btr (by repeat (first | (with_reducible exact Below.refl _ _) | (with_reducible refine bal ?_ _) | (with_reducible refine Below.drew ?_) | (with_reducible refine bdn ?_ _))) hb
    have DX2 : DR w2 s x := DR.keep hbX DX1
    clear DX1
    clear hbX
    have BW2 : Below w.heap.size w w2 := btr (by repeat (first | (with_reducible exact BW1) | (with_reducible refine bal ?_ _) | (with_reducible refine Below.drew ?_) | (with_reducible refine bdn ?_ _))) hb
    clear BW1
    clear hb
    go_wp2_with fail
    refine (K2.out _ _ (DR.keep (by repeat (first | (with_reducible exact Below.refl _ _) | (with_reducible refine bal ?_ _) | (with_reducible refine Below.drew ?_) | (with_reducible refine bdn ?_ _))) DX2)).mono ?_
    rintro e w3 ⟨rfl, hb⟩
    have hbX : Below w2.heap.size w2 w3 := btr (by repeat (first | (with_reducible exact Below.refl _ _) | (with_reducible refine bal ?_ _) | (with_reducible refine Below.drew ?_) | (with_reducible refine bdn ?_ _))) hb
    have DX3 : DR w3 s x := DR.keep hbX DX2
    clear DX2
    clear hbX
    have BW3 : Below w.heap.size w w3 := btr (by repeat (first | (with_reducible exact BW2) | (with_reducible refine bal ?_ _) | (with_reducible refine Below.drew ?_) | (with_reducible refine bdn ?_ _))) hb
    clear BW2
    clear hb
    go_wp2_with fail
    refine (K3.out _ _ (DR.keep (by repeat (first | (with_reducible exact Below.refl _ _) | (with_reducible refine bal ?_ _) | (with_reducible refine Below.drew ?_) | (with_reducible refine bdn ?_ _))) DX3)).mono ?_
    rintro e w4 ⟨s2, rfl, hr, hb⟩
    have hbX : Below w3.heap.size w3 w4 := btr (by repeat (first | (with_reducible exact Below.refl _ _) | (with_reducible refine bal ?_ _) | (with_reducible refine Below.drew ?_) | (with_reducible refine bdn ?_ _))) hb
    have DX4 : DR w4 s x := DR.keep hbX DX3
    clear DX3
    clear hbX
    have DO4 : DR w4 s2 o := hr
    clear hr
    have BW4 : Below w.heap.size w w4 := btr (by repeat (first | (with_reducible exact BW3) | (with_reducible refine bal ?_ _) | (with_reducible refine Below.drew ?_) | (with_reducible refine bdn ?_ _))) hb
    clear BW3
    clear hb
    go_wp2_with fail
    refine (K4.out _ _ (DR.keep (by repeat (first | (with_reducible exact Below.refl _ _) | (with_reducible refine bal ?_ _) | (with_reducible refine Below.drew ?_) | (with_reducible refine bdn ?_ _))) DO4)).mono ?_
    rintro e w5 ⟨rfl, hb⟩
    have hbX : Below w4.heap.size w4 w5 := btr (by repeat (first | (with_reducible exact Below.refl _ _) | (with_reducible refine bal ?_ _) | (with_reducible refine Below.drew ?_) | (with_reducible refine bdn ?_ _))) hb
    have DX5 : DR w5 s x := DR.keep hbX DX4
    have DO5 : DR w5 s2 o := DR.keep hbX DO4
    clear DX4 DO4
    clear hbX
    have BW5 : Below w.heap.size w w5 := btr (by repeat (first | (with_reducible exact BW4) | (with_reducible refine bal ?_ _) | (with_reducible refine Below.drew ?_) | (with_reducible refine bdn ?_ _))) hb
    clear BW4
    clear hb
    go_wp2_with fail
    refine (K4.out _ _ (DR.keep (by repeat (first | (with_reducible exact Below.refl _ _) | (with_reducible refine bal ?_ _) | (with_reducible refine Below.drew ?_) | (with_reducible refine bdn ?_ _))) DO5)).mono ?_
    rintro e w6 ⟨rfl, hb⟩
    have hbX : Below w5.heap.size w5 w6 := btr (by repeat (first | (with_reducible exact Below.refl _ _) | (with_reducible refine bal ?_ _) | (with_reducible refine Below.drew ?_) | (with_reducible refine bdn ?_ _))) hb
    have DX6 : DR w6 s x := DR.keep hbX DX5
    have DO6 : DR w6 s2 o := DR.keep hbX DO5
    clear DX5 DO5
    clear hbX
    have BW6 : Below w.heap.size w w6 := btr (by repeat (first | (with_reducible exact BW5) | (with_reducible refine bal ?_ _) | (with_reducible refine Below.drew ?_) | (with_reducible refine bdn ?_ _))) hb
    clear BW5
    clear hb
    go_wp2
    first
      | exact bodyPost_ret (v := .tuple #[.int .u64 0, .bool false]) (by simp [results, Tryz.results138, go_sem]) rfl ⟨rfl, by repeat (first | (with_reducible exact BW6) | (with_reducible refine bal ?_ _) | (with_reducible refine Below.drew ?_) | (with_reducible refine bdn ?_ _))⟩
set_option maxHeartbeats 2000000 in
set_option maxRecDepth 100000 in
theorem pack24_top (g : Bool) (s : Value) (x o t L L0 : Nat) (e : Int) (w : World) (hs : DR w s x) (he0 : -2000 ≤ e) (he1 : e ≤ 2000) (ht0 : t ≤ 2000) (hL0 : ((L0 : Int) == 0) = false) (hL : L ≤ 2000) (hl : (L : Int) ≤ 24) (ht : 127 < e + t + L - 1)
    (k1 : ∀ s' W, DR W s' x → Calls Tryz.prog 64 #[s'] W fun e w' => e = .returned (.int .i64 (L0 : Int)) ∧ Below W.heap.size W w')
    (k2 : ∀ s' W, DR W s' x → Calls Tryz.prog 162 #[s'] W fun e w' => e = .returned (.int .i64 (t : Int)) ∧ Below W.heap.size W w')
    (k3 : ∀ s' W, DR W s' x → Calls Tryz.prog 163 #[s', .int .i64 (-(t : Int))] W fun e w' => ∃ s2, e = .returned s2 ∧ DR w' s2 o ∧ Below W.heap.size W w')
    (k4 : ∀ s' W, DR W s' o → Calls Tryz.prog 64 #[s'] W fun e w' => e = .returned (.int .i64 (L : Int)) ∧ Below W.heap.size W w') :
    Calls Tryz.prog 138 #[.bool g, s, .int .i64 e, .int .i64 24, .int .i64 8] w fun e w' => e = .returned (.tuple #[.int .u64 0, .bool false]) ∧ Below w.heap.size w w' := by
  have K1 := Lib.hid k1; have K2 := Lib.hid k2; have K3 := Lib.hid k3; have K4 := Lib.hid k4; clear k1 k2 k3 k4
  have DX0 := hs; clear hs
  cases g
  all_goals
    go_enter Tryz.func138, Tryz.ntmps138
    go_wp2_with fail
    refine (K1.out _ _ (DR.keep (by repeat (first | (with_reducible exact Below.refl _ _) | (with_reducible refine bal ?_ _) | (with_reducible refine Below.drew ?_) | (with_reducible refine bdn ?_ _))) DX0)).mono ?_
    rintro e w1 ⟨rfl, hb⟩
    have hbX : Below w.heap.size w w1 := btr (by repeat (first | (with_reducible exact Below.refl _ _) | (with_reducible refine bal ?_ _) | (with_reducible refine Below.drew ?_) | (with_reducible refine bdn ?_ _))) hb
    have DX1 : DR w1 s x := DR.keep hbX DX0
    clear DX0
    clear hbX
    have BW1 : Below w.heap.size w w1 := btr (by repeat (first | (with_reducible exact Below.refl _ _) | (with_reducible refine bal ?_ _) | (with_reducible refine Below.drew ?_) | (with_reducible refine bdn ?_ _))) hb
    clear hb
    go_wp2_with fail
    refine (K2.out _ _ (DR.keep (by repeat (first | (with_reducible exact Below.refl _ _) | (with_reducible refine bal ?_ _) | (with_reducible refine Below.drew ?_) | (with_reducible refine bdn ?_ _))) DX1)).mono ?_
    rintro e w2 ⟨rfl, hb⟩
    have hbX : Below w1.heap.size w1 w2 := btr (by repeat (first | (with_reducible exact Below.refl _ _) | (with_reducible refine bal ?_ _) | (with_reducible refine Below.drew ?_) | (with_reducible refine bdn ?_ _))) hb
    have DX2 : DR w2 s x := DR.keep hbX DX1
    clear DX1
    clear hbX
    have BW2 : Below w.heap.size w w2 := btr (by repeat (first | (with_reducible exact BW1) | (with_reducible refine bal ?_ _) | (with_reducible refine Below.drew ?_) | (with_reducible refine bdn ?_ _))) hb
    clear BW1
    clear hb
    go_wp2_with fail
    refine (K2.out _ _ (DR.keep (by repeat (first | (with_reducible exact Below.refl _ _) | (with_reducible refine bal ?_ _) | (with_reducible refine Below.drew ?_) | (with_reducible refine bdn ?_ _))) DX2)).mono ?_
    rintro e w3 ⟨rfl, hb⟩
    have hbX : Below w2.heap.size w2 w3 := btr (by repeat (first | (with_reducible exact Below.refl _ _) | (with_reducible refine bal ?_ _) | (with_reducible refine Below.drew ?_) | (with_reducible refine bdn ?_ _))) hb
    have DX3 : DR w3 s x := DR.keep hbX DX2
    clear DX2
    clear hbX
    have BW3 : Below w.heap.size w w3 := btr (by repeat (first | (with_reducible exact BW2) | (with_reducible refine bal ?_ _) | (with_reducible refine Below.drew ?_) | (with_reducible refine bdn ?_ _))) hb
    clear BW2
    clear hb
    go_wp2_with fail
    refine (K3.out _ _ (DR.keep (by repeat (first | (with_reducible exact Below.refl _ _) | (with_reducible refine bal ?_ _) | (with_reducible refine Below.drew ?_) | (with_reducible refine bdn ?_ _))) DX3)).mono ?_
    rintro e w4 ⟨s2, rfl, hr, hb⟩
    have hbX : Below w3.heap.size w3 w4 := btr (by repeat (first | (with_reducible exact Below.refl _ _) | (with_reducible refine bal ?_ _) | (with_reducible refine Below.drew ?_) | (with_reducible refine bdn ?_ _))) hb
    have DX4 : DR w4 s x := DR.keep hbX DX3
    clear DX3
    clear hbX
    have DO4 : DR w4 s2 o := hr
    clear hr
    have BW4 : Below w.heap.size w w4 := btr (by repeat (first | (with_reducible exact BW3) | (with_reducible refine bal ?_ _) | (with_reducible refine Below.drew ?_) | (with_reducible refine bdn ?_ _))) hb
    clear BW3
    clear hb
    go_wp2_with fail
    refine (K4.out _ _ (DR.keep (by repeat (first | (with_reducible exact Below.refl _ _) | (with_reducible refine bal ?_ _) | (with_reducible refine Below.drew ?_) | (with_reducible refine bdn ?_ _))) DO4)).mono ?_
    rintro e w5 ⟨rfl, hb⟩
    have hbX : Below w4.heap.size w4 w5 := btr (by repeat (first | (with_reducible exact Below.refl _ _) | (with_reducible refine bal ?_ _) | (with_reducible refine Below.drew ?_) | (with_reducible refine bdn ?_ _))) hb
    have DX5 : DR w5 s x := DR.keep hbX DX4
    have DO5 : DR w5 s2 o := DR.keep hbX DO4
    clear DX4 DO4
    clear hbX
    have BW5 : Below w.heap.size w w5 := btr (by repeat (first | (with_reducible exact BW4) | (with_reducible refine bal ?_ _) | (with_reducible refine Below.drew ?_) | (with_reducible refine bdn ?_ _))) hb
    clear BW4
    clear hb
    go_wp2_with fail
    refine (K4.out _ _ (DR.keep (by repeat (first | (with_reducible exact Below.refl _ _) | (with_reducible refine bal ?_ _) | (with_reducible refine Below.drew ?_) | (with_reducible refine bdn ?_ _))) DO5)).mono ?_
    rintro e w6 ⟨rfl, hb⟩
    have hbX : Below w5.heap.size w5 w6 := btr (by repeat (first | (with_reducible exact Below.refl _ _) | (with_reducible refine bal ?_ _) | (with_reducible refine Below.drew ?_) | (with_reducible refine bdn ?_ _))) hb
    have DX6 : DR w6 s x := DR.keep hbX DX5
    have DO6 : DR w6 s2 o := DR.keep hbX DO5
    clear DX5 DO5
    clear hbX
    have BW6 : Below w.heap.size w w6 := btr (by repeat (first | (with_reducible exact BW5) | (with_reducible refine bal ?_ _) | (with_reducible refine Below.drew ?_) | (with_reducible refine bdn ?_ _))) hb
    clear BW5
    clear hb
    go_wp2
    first
      | exact bodyPost_ret (v := .tuple #[.int .u64 0, .bool false]) (by simp [results, Tryz.results138, go_sem]) rfl ⟨rfl, by repeat (first | (with_reducible exact BW6) | (with_reducible refine bal ?_ _) | (with_reducible refine Below.drew ?_) | (with_reducible refine bdn ?_ _))⟩
set_option maxHeartbeats 2000000 in
set_option maxRecDepth 100000 in
theorem pack24_low (g : Bool) (s : Value) (x o t L L0 : Nat) (e : Int) (w : World) (hs : DR w s x) (he0 : -2000 ≤ e) (he1 : e ≤ 2000) (ht0 : t ≤ 2000) (hL0 : ((L0 : Int) == 0) = false) (hL : L ≤ 2000) (hl : (L : Int) ≤ 24) (ht : e + t + L - 1 ≤ 127) (hle : e + t < -149)
    (k1 : ∀ s' W, DR W s' x → Calls Tryz.prog 64 #[s'] W fun e w' => e = .returned (.int .i64 (L0 : Int)) ∧ Below W.heap.size W w')
    (k2 : ∀ s' W, DR W s' x → Calls Tryz.prog 162 #[s'] W fun e w' => e = .returned (.int .i64 (t : Int)) ∧ Below W.heap.size W w')
    (k3 : ∀ s' W, DR W s' x → Calls Tryz.prog 163 #[s', .int .i64 (-(t : Int))] W fun e w' => ∃ s2, e = .returned s2 ∧ DR w' s2 o ∧ Below W.heap.size W w')
    (k4 : ∀ s' W, DR W s' o → Calls Tryz.prog 64 #[s'] W fun e w' => e = .returned (.int .i64 (L : Int)) ∧ Below W.heap.size W w') :
    Calls Tryz.prog 138 #[.bool g, s, .int .i64 e, .int .i64 24, .int .i64 8] w fun e w' => e = .returned (.tuple #[.int .u64 0, .bool false]) ∧ Below w.heap.size w w' := by
  have K1 := Lib.hid k1; have K2 := Lib.hid k2; have K3 := Lib.hid k3; have K4 := Lib.hid k4; clear k1 k2 k3 k4
  have DX0 := hs; clear hs
  cases g
  all_goals
    go_enter Tryz.func138, Tryz.ntmps138
    go_wp2_with fail
    refine (K1.out _ _ (DR.keep (by repeat (first | (with_reducible exact Below.refl _ _) | (with_reducible refine bal ?_ _) | (with_reducible refine Below.drew ?_) | (with_reducible refine bdn ?_ _))) DX0)).mono ?_
    rintro e w1 ⟨rfl, hb⟩
    have hbX : Below w.heap.size w w1 := btr (by repeat (first | (with_reducible exact Below.refl _ _) | (with_reducible refine bal ?_ _) | (with_reducible refine Below.drew ?_) | (with_reducible refine bdn ?_ _))) hb
    have DX1 : DR w1 s x := DR.keep hbX DX0
    clear DX0
    clear hbX
    have BW1 : Below w.heap.size w w1 := btr (by repeat (first | (with_reducible exact Below.refl _ _) | (with_reducible refine bal ?_ _) | (with_reducible refine Below.drew ?_) | (with_reducible refine bdn ?_ _))) hb
    clear hb
    go_wp2_with fail
    refine (K2.out _ _ (DR.keep (by repeat (first | (with_reducible exact Below.refl _ _) | (with_reducible refine bal ?_ _) | (with_reducible refine Below.drew ?_) | (with_reducible refine bdn ?_ _))) DX1)).mono ?_
    rintro e w2 ⟨rfl, hb⟩
    have hbX : Below w1.heap.size w1 w2 := btr (by repeat (first | (with_reducible exact Below.refl _ _) | (with_reducible refine bal ?_ _) | (with_reducible refine Below.drew ?_) | (with_reducible refine bdn ?_ _))) hb
    have DX2 : DR w2 s x := DR.keep hbX DX1
    clear DX1
    clear hbX
    have BW2 : Below w.heap.size w w2 := btr (by repeat (first | (with_reducible exact BW1) | (with_reducible refine bal ?_ _) | (with_reducible refine Below.drew ?_) | (with_reducible refine bdn ?_ _))) hb
    clear BW1
    clear hb
    go_wp2_with fail
    refine (K2.out _ _ (DR.keep (by repeat (first | (with_reducible exact Below.refl _ _) | (with_reducible refine bal ?_ _) | (with_reducible refine Below.drew ?_) | (with_reducible refine bdn ?_ _))) DX2)).mono ?_
    rintro e w3 ⟨rfl, hb⟩
    have hbX : Below w2.heap.size w2 w3 := btr (by repeat (first | (with_reducible exact Below.refl _ _) | (with_reducible refine bal ?_ _) | (with_reducible refine Below.drew ?_) | (with_reducible refine bdn ?_ _))) hb
    have DX3 : DR w3 s x := DR.keep hbX DX2
    clear DX2
    clear hbX
    have BW3 : Below w.heap.size w w3 := btr (by repeat (first | (with_reducible exact BW2) | (with_reducible refine bal ?_ _) | (with_reducible refine Below.drew ?_) | (with_reducible refine bdn ?_ _))) hb
    clear BW2
    clear hb
    go_wp2_with fail
    refine (K3.out _ _ (DR.keep (by repeat (first | (with_reducible exact Below.refl _ _) | (with_reducible refine bal ?_ _) | (with_reducible refine Below.drew ?_) | (with_reducible refine bdn ?_ _))) DX3)).mono ?_
    rintro e w4 ⟨s2, rfl, hr, hb⟩
    have hbX : Below w3.heap.size w3 w4 := btr (by repeat (first | (with_reducible exact Below.refl _ _) | (with_reducible refine bal ?_ _) | (with_reducible refine Below.drew ?_) | (with_reducible refine bdn ?_ _))) hb
    have DX4 : DR w4 s x := DR.keep hbX DX3
    clear DX3
    clear hbX
    have DO4 : DR w4 s2 o := hr
    clear hr
    have BW4 : Below w.heap.size w w4 := btr (by repeat (first | (with_reducible exact BW3) | (with_reducible refine bal ?_ _) | (with_reducible refine Below.drew ?_) | (with_reducible refine bdn ?_ _))) hb
    clear BW3
    clear hb
    go_wp2_with fail
    refine (K4.out _ _ (DR.keep (by repeat (first | (with_reducible exact Below.refl _ _) | (with_reducible refine bal ?_ _) | (with_reducible refine Below.drew ?_) | (with_reducible refine bdn ?_ _))) DO4)).mono ?_
    rintro e w5 ⟨rfl, hb⟩
    have hbX : Below w4.heap.size w4 w5 := btr (by repeat (first | (with_reducible exact Below.refl _ _) | (with_reducible refine bal ?_ _) | (with_reducible refine Below.drew ?_) | (with_reducible refine bdn ?_ _))) hb
    have DX5 : DR w5 s x := DR.keep hbX DX4
    have DO5 : DR w5 s2 o := DR.keep hbX DO4
    clear DX4 DO4
    clear hbX
    have BW5 : Below w.heap.size w w5 := btr (by repeat (first | (with_reducible exact BW4) | (with_reducible refine bal ?_ _) | (with_reducible refine Below.drew ?_) | (with_reducible refine bdn ?_ _))) hb
    clear BW4
    clear hb
    go_wp2_with fail
    refine (K4.out _ _ (DR.keep (by repeat (first | (with_reducible exact Below.refl _ _) | (with_reducible refine bal ?_ _) | (with_reducible refine Below.drew ?_) | (with_reducible refine bdn ?_ _))) DO5)).mono ?_
    rintro e w6 ⟨rfl, hb⟩
    have hbX : Below w5.heap.size w5 w6 := btr (by repeat (first | (with_reducible exact Below.refl _ _) | (with_reducible refine bal ?_ _) | (with_reducible refine Below.drew ?_) | (with_reducible refine bdn ?_ _))) hb
    have DX6 : DR w6 s x := DR.keep hbX DX5
    have DO6 : DR w6 s2 o := DR.keep hbX DO5
    clear DX5 DO5
    clear hbX
    have BW6 : Below w.heap.size w w6 := btr (by repeat (first | (with_reducible exact BW5) | (with_reducible refine bal ?_ _) | (with_reducible refine Below.drew ?_) | (with_reducible refine bdn ?_ _))) hb
    clear BW5
    clear hb
    go_wp2
    first
      | exact bodyPost_ret (v := .tuple #[.int .u64 0, .bool false]) (by simp [results, Tryz.results138, go_sem]) rfl ⟨rfl, by repeat (first | (with_reducible exact BW6) | (with_reducible refine bal ?_ _) | (with_reducible refine Below.drew ?_) | (with_reducible refine bdn ?_ _))⟩
end Go.Proofs.YtfaaagmjmljhiaaGreatDoor
end
section
namespace Go.Proofs.YtfaaagmjmljhiaaGreatDoor
open Go.RowKit Go.Shelf

set_option maxHeartbeats 2000000 in
set_option maxRecDepth 100000 in
theorem pack11_zero (g : Bool) (s : Value) (x : Nat) (e : Int) (w : World) (hs : DR w s x)
    (k1 : ∀ s' W, DR W s' x → Calls Tryz.prog 64 #[s'] W fun e w' => e = .returned (.int .i64 0) ∧ Below W.heap.size W w') :
    Calls Tryz.prog 138 #[.bool g, s, .int .i64 e, .int .i64 11, .int .i64 5] w fun e w' => e = .returned (.tuple #[.int .u64 (if g then 32768 else 0), .bool true]) ∧ Below w.heap.size w w' := by
  have K1 := Lib.hid k1; clear k1
  have DX0 := hs; clear hs
  cases g
  all_goals
    go_enter Tryz.func138, Tryz.ntmps138
    go_wp2_with fail
    refine (K1.out _ _ (DR.keep (by repeat (first | (with_reducible exact Below.refl _ _) | (with_reducible refine bal ?_ _) | (with_reducible refine Below.drew ?_) | (with_reducible refine bdn ?_ _))) DX0)).mono ?_
    rintro e w1 ⟨rfl, hb⟩
    have hbX : Below w.heap.size w w1 := btr (by repeat (first | (with_reducible exact Below.refl _ _) | (with_reducible refine bal ?_ _) | (with_reducible refine Below.drew ?_) | (with_reducible refine bdn ?_ _))) hb
    have DX1 : DR w1 s x := DR.keep hbX DX0
    clear DX0
    clear hbX
    have BW1 : Below w.heap.size w w1 := btr (by repeat (first | (with_reducible exact Below.refl _ _) | (with_reducible refine bal ?_ _) | (with_reducible refine Below.drew ?_) | (with_reducible refine bdn ?_ _))) hb
    clear hb
    go_wp2
    first
      | exact bodyPost_ret (v := .tuple #[.int .u64 0, .bool true]) (by simp [results, Tryz.results138, go_sem]) rfl ⟨rfl, by repeat (first | (with_reducible exact BW1) | (with_reducible refine bal ?_ _) | (with_reducible refine Below.drew ?_) | (with_reducible refine bdn ?_ _))⟩
      | exact bodyPost_ret (v := .tuple #[.int .u64 32768, .bool true]) (by simp [results, Tryz.results138, go_sem]) rfl ⟨rfl, by repeat (first | (with_reducible exact BW1) | (with_reducible refine bal ?_ _) | (with_reducible refine Below.drew ?_) | (with_reducible refine bdn ?_ _))⟩
set_option maxHeartbeats 2000000 in
set_option maxRecDepth 100000 in
theorem pack11_norm (g : Bool) (s : Value) (x o t L L0 : Nat) (e : Int) (r : Int) (w : World) (hs : DR w s x) (he0 : -2000 ≤ e) (he1 : e ≤ 2000) (ht0 : t ≤ 2000) (hL0 : ((L0 : Int) == 0) = false) (hL : L ≤ 2000) (hl : (L : Int) ≤ 11) (ht : e + t + L - 1 ≤ 15) (ht2 : -14 ≤ e + t + L - 1) (hle : -24 ≤ e + t)
    (k1 : ∀ s' W, DR W s' x → Calls Tryz.prog 64 #[s'] W fun e w' => e = .returned (.int .i64 (L0 : Int)) ∧ Below W.heap.size W w')
    (k2 : ∀ s' W, DR W s' x → Calls Tryz.prog 162 #[s'] W fun e w' => e = .returned (.int .i64 (t : Int)) ∧ Below W.heap.size W w')
    (k3 : ∀ s' W, DR W s' x → Calls Tryz.prog 163 #[s', .int .i64 (-(t : Int))] W fun e w' => ∃ s2, e = .returned s2 ∧ DR w' s2 o ∧ Below W.heap.size W w')
    (k4 : ∀ s' W, DR W s' o → Calls Tryz.prog 64 #[s'] W fun e w' => e = .returned (.int .i64 (L : Int)) ∧ Below W.heap.size W w')
    (k5 : ∀ s' W, DR W s' o → Calls Tryz.prog 63 #[s'] W fun e w' => e = .returned (.tuple #[N4 o, .bool true]) ∧ Below W.heap.size W w')
    (hr : bits .or .u64 (bits .or .u64 (if g then 32768 else 0) ((e + t + L - 1 + 15) * 1024)) (bits .and .u64 (IntKind.u64.wrap (lb 0 o * 2 ^ (11 - L))) 1023) = r) :
    Calls Tryz.prog 138 #[.bool g, s, .int .i64 e, .int .i64 11, .int .i64 5] w fun e w' => e = .returned (.tuple #[.int .u64 r, .bool true]) ∧ Below w.heap.size w w' := by
  have K1 := Lib.hid k1; have K2 := Lib.hid k2; have K3 := Lib.hid k3; have K4 := Lib.hid k4; have K5 := Lib.hid k5; clear k1 k2 k3 k4 k5
  have HR := Lib.hid hr; clear hr
  have DX0 := hs; clear hs
  cases g
  all_goals
    simp only [if_true, if_false, Bool.false_eq_true] at HR
    go_enter Tryz.func138, Tryz.ntmps138
    go_wp2_with fail
    refine (K1.out _ _ (DR.keep (by repeat (first | (with_reducible exact Below.refl _ _) | (with_reducible refine bal ?_ _) | (with_reducible refine Below.drew ?_) | (with_reducible refine bdn ?_ _))) DX0)).mono ?_
    rintro e w1 ⟨rfl, hb⟩
    have hbX : Below w.heap.size w w1 := btr (by repeat (first | (with_reducible exact Below.refl _ _) | (with_reducible refine bal ?_ _) | (with_reducible refine Below.drew ?_) | (with_reducible refine bdn ?_ _))) hb
    have DX1 : DR w1 s x := DR.keep hbX DX0
    clear DX0
    clear hbX
    have BW1 : Below w.heap.size w w1 := btr (by repeat (first | (with_reducible exact Below.refl _ _) | (with_reducible refine bal ?_ _) | (with_reducible refine Below.drew ?_) | (with_reducible refine bdn ?_ _))) hb
    clear hb
    go_wp2_with fail
    refine (K2.out _ _ (DR.keep (by repeat (first | (with_reducible exact Below.refl _ _) | (with_reducible refine bal ?_ _) | (with_reducible refine Below.drew ?_) | (with_reducible refine bdn ?_ _))) DX1)).mono ?_
    rintro e w2 ⟨rfl, hb⟩
    have hbX : Below w1.heap.size w1 w2 := btr (by repeat (first | (with_reducible exact Below.refl _ _) | (with_reducible refine bal ?_ _) | (with_reducible refine Below.drew ?_) | (with_reducible refine bdn ?_ _))) hb
    have DX2 : DR w2 s x := DR.keep hbX DX1
    clear DX1
    clear hbX
    have BW2 : Below w.heap.size w w2 := btr (by repeat (first | (with_reducible exact BW1) | (with_reducible refine bal ?_ _) | (with_reducible refine Below.drew ?_) | (with_reducible refine bdn ?_ _))) hb
    clear BW1
    clear hb
    go_wp2_with fail
    refine (K2.out _ _ (DR.keep (by repeat (first | (with_reducible exact Below.refl _ _) | (with_reducible refine bal ?_ _) | (with_reducible refine Below.drew ?_) | (with_reducible refine bdn ?_ _))) DX2)).mono ?_
    rintro e w3 ⟨rfl, hb⟩
    have hbX : Below w2.heap.size w2 w3 := btr (by repeat (first | (with_reducible exact Below.refl _ _) | (with_reducible refine bal ?_ _) | (with_reducible refine Below.drew ?_) | (with_reducible refine bdn ?_ _))) hb
    have DX3 : DR w3 s x := DR.keep hbX DX2
    clear DX2
    clear hbX
    have BW3 : Below w.heap.size w w3 := btr (by repeat (first | (with_reducible exact BW2) | (with_reducible refine bal ?_ _) | (with_reducible refine Below.drew ?_) | (with_reducible refine bdn ?_ _))) hb
    clear BW2
    clear hb
    go_wp2_with fail
    refine (K3.out _ _ (DR.keep (by repeat (first | (with_reducible exact Below.refl _ _) | (with_reducible refine bal ?_ _) | (with_reducible refine Below.drew ?_) | (with_reducible refine bdn ?_ _))) DX3)).mono ?_
    rintro e w4 ⟨s2, rfl, hr, hb⟩
    have hbX : Below w3.heap.size w3 w4 := btr (by repeat (first | (with_reducible exact Below.refl _ _) | (with_reducible refine bal ?_ _) | (with_reducible refine Below.drew ?_) | (with_reducible refine bdn ?_ _))) hb
    have DX4 : DR w4 s x := DR.keep hbX DX3
    clear DX3
    clear hbX
    have DO4 : DR w4 s2 o := hr
    clear hr
    have BW4 : Below w.heap.size w w4 := btr (by repeat (first | (with_reducible exact BW3) | (with_reducible refine bal ?_ _) | (with_reducible refine Below.drew ?_) | (with_reducible refine bdn ?_ _))) hb
    clear BW3
    clear hb
    go_wp2_with fail
    refine (K4.out _ _ (DR.keep (by repeat (first | (with_reducible exact Below.refl _ _) | (with_reducible refine bal ?_ _) | (with_reducible refine Below.drew ?_) | (with_reducible refine bdn ?_ _))) DO4)).mono ?_
    rintro e w5 ⟨rfl, hb⟩
    have hbX : Below w4.heap.size w4 w5 := btr (by repeat (first | (with_reducible exact Below.refl _ _) | (with_reducible refine bal ?_ _) | (with_reducible refine Below.drew ?_) | (with_reducible refine bdn ?_ _))) hb
    have DX5 : DR w5 s x := DR.keep hbX DX4
    have DO5 : DR w5 s2 o := DR.keep hbX DO4
    clear DX4 DO4
    clear hbX
    have BW5 : Below w.heap.size w w5 := btr (by repeat (first | (with_reducible exact BW4) | (with_reducible refine bal ?_ _) | (with_reducible refine Below.drew ?_) | (with_reducible refine bdn ?_ _))) hb
    clear BW4
    clear hb
    go_wp2_with fail
    refine (K4.out _ _ (DR.keep (by repeat (first | (with_reducible exact Below.refl _ _) | (with_reducible refine bal ?_ _) | (with_reducible refine Below.drew ?_) | (with_reducible refine bdn ?_ _))) DO5)).mono ?_
    rintro e w6 ⟨rfl, hb⟩
    have hbX : Below w5.heap.size w5 w6 := btr (by repeat (first | (with_reducible exact Below.refl _ _) | (with_reducible refine bal ?_ _) | (with_reducible refine Below.drew ?_) | (with_reducible refine bdn ?_ _))) hb
    have DX6 : DR w6 s x := DR.keep hbX DX5
    have DO6 : DR w6 s2 o := DR.keep hbX DO5
    clear DX5 DO5
    clear hbX
    have BW6 : Below w.heap.size w w6 := btr (by repeat (first | (with_reducible exact BW5) | (with_reducible refine bal ?_ _) | (with_reducible refine Below.drew ?_) | (with_reducible refine bdn ?_ _))) hb
    clear BW5
    clear hb
    go_wp2_with fail
    refine (K5.out _ _ (DR.keep (by repeat (first | (with_reducible exact Below.refl _ _) | (with_reducible refine bal ?_ _) | (with_reducible refine Below.drew ?_) | (with_reducible refine bdn ?_ _))) DO6)).mono ?_
    rintro e w7 ⟨rfl, hb⟩
    have hbX : Below w6.heap.size w6 w7 := btr (by repeat (first | (with_reducible exact Below.refl _ _) | (with_reducible refine bal ?_ _) | (with_reducible refine Below.drew ?_) | (with_reducible refine bdn ?_ _))) hb
    have DX7 : DR w7 s x := DR.keep hbX DX6
    have DO7 : DR w7 s2 o := DR.keep hbX DO6
    clear DX6 DO6
    clear hbX
    have BW7 : Below w.heap.size w w7 := btr (by repeat (first | (with_reducible exact BW6) | (with_reducible refine bal ?_ _) | (with_reducible refine Below.drew ?_) | (with_reducible refine bdn ?_ _))) hb
    clear BW6
    clear hb
    go_upto_region 14 with (fail)
    go_name_world w8 hw8
    have BW8 : Below w.heap.size w w8 := by rw [← hw8]; repeat (first | (with_reducible exact BW7) | (with_reducible refine bal ?_ _) | (with_reducible refine Below.drew ?_) | (with_reducible refine bdn ?_ _))
    have hbX : Below w7.heap.size w7 w8 := by rw [← hw8]; repeat (first | (with_reducible exact Below.refl _ _) | (with_reducible refine bal ?_ _) | (with_reducible refine Below.drew ?_) | (with_reducible refine bdn ?_ _))
    have DX8 : DR w8 s x := DR.keep hbX DX7
    have DO8 : DR w8 s2 o := DR.keep hbX DO7
    clear hbX DX7 DO7
    have N8 : Row4 w8 w7.heap.size (.int .u64 (lb 0 o)) (.int .u64 (lb 1 o)) (.int .u64 (lb 2 o)) (.int .u64 (lb 3 o)) := by rw [← hw8]; exact (by repeat (first | (with_reducible exact Row4.new _ _ _ _ _) | ((with_reducible refine Row4.new' _ ?_ _ _ _ _); (simp; done)) | (with_reducible refine Row4.alloc ?_ _) | (with_reducible refine Row4.drew ?_)))
    clear BW7
    clear hw8
    obtain ⟨Nc0, Nc1, Nc2, Nc3⟩ := N8.four
    obtain ⟨Nf0, Nf1, Nf2, Nf3⟩ := N8.free4
    go_wp2_with fail
    refine (K4.out _ _ (DR.keep (by repeat (first | (with_reducible exact Below.refl _ _) | (with_reducible refine bal ?_ _) | (with_reducible refine Below.drew ?_) | (with_reducible refine bdn ?_ _))) DO8)).mono ?_
    rintro e w9 ⟨rfl, hb⟩
    have hbX : Below w8.heap.size w8 w9 := btr (by repeat (first | (with_reducible exact Below.refl _ _) | (with_reducible refine bal ?_ _) | (with_reducible refine Below.drew ?_) | (with_reducible refine bdn ?_ _))) hb
    have DX9 : DR w9 s x := DR.keep hbX DX8
    have DO9 : DR w9 s2 o := DR.keep hbX DO8
    clear DX8 DO8
    clear hbX
    have BW9 : Below w.heap.size w w9 := btr (by repeat (first | (with_reducible exact BW8) | (with_reducible refine bal ?_ _) | (with_reducible refine Below.drew ?_) | (with_reducible refine bdn ?_ _))) hb
    have N9 : Row4 w9 w7.heap.size (.int .u64 (lb 0 o)) (.int .u64 (lb 1 o)) (.int .u64 (lb 2 o)) (.int .u64 (lb 3 o)) := Row4.keep hb (by repeat (first | (with_reducible exact N8) | (with_reducible refine Row4.alloc ?_ _) | (with_reducible refine Row4.drew ?_)))
    clear N8
    clear BW8
    clear hb
    have hr := HR.out
    go_wp2
    first
      | exact bodyPost_ret (v := .tuple #[.int .u64 r, .bool true]) (by simp [results, Tryz.results138, go_sem]) rfl ⟨rfl, by repeat (first | (with_reducible exact BW9) | (with_reducible refine bal ?_ _) | (with_reducible refine Below.drew ?_) | (with_reducible refine bdn ?_ _))⟩
set_option maxHeartbeats 2000000 in
set_option maxRecDepth 100000 in
theorem pack11_sub (g : Bool) (s : Value) (x o t L L0 : Nat) (e : Int) (r : Int) (w : World) (hs : DR w s x) (he0 : -2000 ≤ e) (he1 : e ≤ 2000) (ht0 : t ≤ 2000) (hL0 : ((L0 : Int) == 0) = false) (hL : L ≤ 2000) (hl : (L : Int) ≤ 11) (ht : e + t + L - 1 < -14) (hle : -24 ≤ e + t)
    (k1 : ∀ s' W, DR W s' x → Calls Tryz.prog 64 #[s'] W fun e w' => e = .returned (.int .i64 (L0 : Int)) ∧ Below W.heap.size W w')
    (k2 : ∀ s' W, DR W s' x → Calls Tryz.prog 162 #[s'] W fun e w' => e = .returned (.int .i64 (t : Int)) ∧ Below W.heap.size W w')
    (k3 : ∀ s' W, DR W s' x → Calls Tryz.prog 163 #[s', .int .i64 (-(t : Int))] W fun e w' => ∃ s2, e = .returned s2 ∧ DR w' s2 o ∧ Below W.heap.size W w')
    (k4 : ∀ s' W, DR W s' o → Calls Tryz.prog 64 #[s'] W fun e w' => e = .returned (.int .i64 (L : Int)) ∧ Below W.heap.size W w')
    (k5 : ∀ s' W, DR W s' o → Calls Tryz.prog 63 #[s'] W fun e w' => e = .returned (.tuple #[N4 o, .bool true]) ∧ Below W.heap.size W w')
    (hr : bits .or .u64 (if g then 32768 else 0) (IntKind.u64.wrap (lb 0 o * 2 ^ (e + t + 24).toNat)) = r) :
    Calls Tryz.prog 138 #[.bool g, s, .int .i64 e, .int .i64 11, .int .i64 5] w fun e w' => e = .returned (.tuple #[.int .u64 r, .bool true]) ∧ Below w.heap.size w w' := by
  have K1 := Lib.hid k1; have K2 := Lib.hid k2; have K3 := Lib.hid k3; have K4 := Lib.hid k4; have K5 := Lib.hid k5; clear k1 k2 k3 k4 k5
  have HR := Lib.hid hr; clear hr
  have DX0 := hs; clear hs
  cases g
  all_goals
    simp only [if_true, if_false, Bool.false_eq_true] at HR
    go_enter Tryz.func138, Tryz.ntmps138
    go_wp2_with fail
    refine (K1.out _ _ (DR.keep (by repeat (first | (with_reducible exact Below.refl _ _) | (with_reducible refine bal ?_ _) | (with_reducible refine Below.drew ?_) | (with_reducible refine bdn ?_ _))) DX0)).mono ?_
    rintro e w1 ⟨rfl, hb⟩
    have hbX : Below w.heap.size w w1 := btr (by repeat (first | (with_reducible exact Below.refl _ _) | (with_reducible refine bal ?_ _) | (with_reducible refine Below.drew ?_) | (with_reducible refine bdn ?_ _))) hb
    have DX1 : DR w1 s x := DR.keep hbX DX0
    clear DX0
    clear hbX
    have BW1 : Below w.heap.size w w1 := btr (by repeat (first | (with_reducible exact Below.refl _ _) | (with_reducible refine bal ?_ _) | (with_reducible refine Below.drew ?_) | (with_reducible refine bdn ?_ _))) hb
    clear hb
    go_wp2_with fail
    refine (K2.out _ _ (DR.keep (by repeat (first | (with_reducible exact Below.refl _ _) | (with_reducible refine bal ?_ _) | (with_reducible refine Below.drew ?_) | (with_reducible refine bdn ?_ _))) DX1)).mono ?_
    rintro e w2 ⟨rfl, hb⟩
    have hbX : Below w1.heap.size w1 w2 := btr (by repeat (first | (with_reducible exact Below.refl _ _) | (with_reducible refine bal ?_ _) | (with_reducible refine Below.drew ?_) | (with_reducible refine bdn ?_ _))) hb
    have DX2 : DR w2 s x := DR.keep hbX DX1
    clear DX1
    clear hbX
    have BW2 : Below w.heap.size w w2 := btr (by repeat (first | (with_reducible exact BW1) | (with_reducible refine bal ?_ _) | (with_reducible refine Below.drew ?_) | (with_reducible refine bdn ?_ _))) hb
    clear BW1
    clear hb
    go_wp2_with fail
    refine (K2.out _ _ (DR.keep (by repeat (first | (with_reducible exact Below.refl _ _) | (with_reducible refine bal ?_ _) | (with_reducible refine Below.drew ?_) | (with_reducible refine bdn ?_ _))) DX2)).mono ?_
    rintro e w3 ⟨rfl, hb⟩
    have hbX : Below w2.heap.size w2 w3 := btr (by repeat (first | (with_reducible exact Below.refl _ _) | (with_reducible refine bal ?_ _) | (with_reducible refine Below.drew ?_) | (with_reducible refine bdn ?_ _))) hb
    have DX3 : DR w3 s x := DR.keep hbX DX2
    clear DX2
    clear hbX
    have BW3 : Below w.heap.size w w3 := btr (by repeat (first | (with_reducible exact BW2) | (with_reducible refine bal ?_ _) | (with_reducible refine Below.drew ?_) | (with_reducible refine bdn ?_ _))) hb
    clear BW2
    clear hb
    go_wp2_with fail
    refine (K3.out _ _ (DR.keep (by repeat (first | (with_reducible exact Below.refl _ _) | (with_reducible refine bal ?_ _) | (with_reducible refine Below.drew ?_) | (with_reducible refine bdn ?_ _))) DX3)).mono ?_
    rintro e w4 ⟨s2, rfl, hr, hb⟩
    have hbX : Below w3.heap.size w3 w4 := btr (by repeat (first | (with_reducible exact Below.refl _ _) | (with_reducible refine bal ?_ _) | (with_reducible refine Below.drew ?_) | (with_reducible refine bdn ?_ _))) hb
    have DX4 : DR w4 s x := DR.keep hbX DX3
    clear DX3
    clear hbX
    have DO4 : DR w4 s2 o := hr
    clear hr
    have BW4 : Below w.heap.size w w4 := btr (by repeat (first | (with_reducible exact BW3) | (with_reducible refine bal ?_ _) | (with_reducible refine Below.drew ?_) | (with_reducible refine bdn ?_ _))) hb
    clear BW3
    clear hb
    go_wp2_with fail
    refine (K4.out _ _ (DR.keep (by repeat (first | (with_reducible exact Below.refl _ _) | (with_reducible refine bal ?_ _) | (with_reducible refine Below.drew ?_) | (with_reducible refine bdn ?_ _))) DO4)).mono ?_
    rintro e w5 ⟨rfl, hb⟩
    have hbX : Below w4.heap.size w4 w5 := btr (by repeat (first | (with_reducible exact Below.refl _ _) | (with_reducible refine bal ?_ _) | (with_reducible refine Below.drew ?_) | (with_reducible refine bdn ?_ _))) hb
    have DX5 : DR w5 s x := DR.keep hbX DX4
    have DO5 : DR w5 s2 o := DR.keep hbX DO4
    clear DX4 DO4
    clear hbX
    have BW5 : Below w.heap.size w w5 := btr (by repeat (first | (with_reducible exact BW4) | (with_reducible refine bal ?_ _) | (with_reducible refine Below.drew ?_) | (with_reducible refine bdn ?_ _))) hb
    clear BW4
    clear hb
    go_wp2_with fail
    refine (K4.out _ _ (DR.keep (by repeat (first | (with_reducible exact Below.refl _ _) | (with_reducible refine bal ?_ _) | (with_reducible refine Below.drew ?_) | (with_reducible refine bdn ?_ _))) DO5)).mono ?_
    rintro e w6 ⟨rfl, hb⟩
    have hbX : Below w5.heap.size w5 w6 := btr (by repeat (first | (with_reducible exact Below.refl _ _) | (with_reducible refine bal ?_ _) | (with_reducible refine Below.drew ?_) | (with_reducible refine bdn ?_ _))) hb
    have DX6 : DR w6 s x := DR.keep hbX DX5
    have DO6 : DR w6 s2 o := DR.keep hbX DO5
    clear DX5 DO5
    clear hbX
    have BW6 : Below w.heap.size w w6 := btr (by repeat (first | (with_reducible exact BW5) | (with_reducible refine bal ?_ _) | (with_reducible refine Below.drew ?_) | (with_reducible refine bdn ?_ _))) hb
    clear BW5
    clear hb
    go_wp2_with fail
    refine (K5.out _ _ (DR.keep (by repeat (first | (with_reducible exact Below.refl _ _) | (with_reducible refine bal ?_ _) | (with_reducible refine Below.drew ?_) | (with_reducible refine bdn ?_ _))) DO6)).mono ?_
    rintro e w7 ⟨rfl, hb⟩
    have hbX : Below w6.heap.size w6 w7 := btr (by repeat (first | (with_reducible exact Below.refl _ _) | (with_reducible refine bal ?_ _) | (with_reducible refine Below.drew ?_) | (with_reducible refine bdn ?_ _))) hb
    have DX7 : DR w7 s x := DR.keep hbX DX6
    have DO7 : DR w7 s2 o := DR.keep hbX DO6
    clear DX6 DO6
    clear hbX
    have BW7 : Below w.heap.size w w7 := btr (by repeat (first | (with_reducible exact BW6) | (with_reducible refine bal ?_ _) | (with_reducible refine Below.drew ?_) | (with_reducible refine bdn ?_ _))) hb
    clear BW6
    clear hb
    go_upto_region 14 with (fail)
    go_name_world w8 hw8
    have BW8 : Below w.heap.size w w8 := by rw [← hw8]; repeat (first | (with_reducible exact BW7) | (with_reducible refine bal ?_ _) | (with_reducible refine Below.drew ?_) | (with_reducible refine bdn ?_ _))
    have hbX : Below w7.heap.size w7 w8 := by rw [← hw8]; repeat (first | (with_reducible exact Below.refl _ _) | (with_reducible refine bal ?_ _) | (with_reducible refine Below.drew ?_) | (with_reducible refine bdn ?_ _))
    have DX8 : DR w8 s x := DR.keep hbX DX7
    have DO8 : DR w8 s2 o := DR.keep hbX DO7
    clear hbX DX7 DO7
    have N8 : Row4 w8 w7.heap.size (.int .u64 (lb 0 o)) (.int .u64 (lb 1 o)) (.int .u64 (lb 2 o)) (.int .u64 (lb 3 o)) := by rw [← hw8]; exact (by repeat (first | (with_reducible exact Row4.new _ _ _ _ _) | ((with_reducible refine Row4.new' _ ?_ _ _ _ _); (simp; done)) | (with_reducible refine Row4.alloc ?_ _) | (with_reducible refine Row4.drew ?_)))
    clear BW7
    clear hw8
    obtain ⟨Nc0, Nc1, Nc2, Nc3⟩ := N8.four
    obtain ⟨Nf0, Nf1, Nf2, Nf3⟩ := N8.free4
    have hr := HR.out
    go_wp2
    first
      | exact bodyPost_ret (v := .tuple #[.int .u64 r, .bool true]) (by simp [results, Tryz.results138, go_sem]) rfl ⟨rfl, by repeat (first | (with_reducible exact BW8) | (with_reducible refine bal ?_ _) | (with_reducible refine Below.drew ?_) | (with_reducible refine bdn ?_ _))⟩
set_option maxHeartbeats 2000000 in
set_option maxRecDepth 100000 in
theorem pack11_long (g : Bool) (s : Value) (x o t L L0 : Nat) (e : Int) (w : World) (hs : DR w s x) (he0 : -2000 ≤ e) (he1 : e ≤ 2000) (ht0 : t ≤ 2000) (hL0 : ((L0 : Int) == 0) = false) (hL : L ≤ 2000) (hl : 11 < (L : Int))
    (k1 : ∀ s' W, DR W s' x → Calls Tryz.prog 64 #[s'] W fun e w' => e = .returned (.int .i64 (L0 : Int)) ∧ Below W.heap.size W w')
    (k2 : ∀ s' W, DR W s' x → Calls Tryz.prog 162 #[s'] W fun e w' => e = .returned (.int .i64 (t : Int)) ∧ Below W.heap.size W w')
    (k3 : ∀ s' W, DR W s' x → Calls Tryz.prog 163 #[s', .int .i64 (-(t : Int))] W fun e w' => ∃ s2, e = .returned s2 ∧ DR w' s2 o ∧ Below W.heap.size W w')
    (k4 : ∀ s' W, DR W s' o → Calls Tryz.prog 64 #[s'] W fun e w' => e = .returned (.int .i64 (L : Int)) ∧ Below W.heap.size W w') :
    Calls Tryz.prog 138 #[.bool g, s, .int .i64 e, .int .i64 11, .int .i64 5] w fun e w' => e = .returned (.tuple #[.int .u64 0, .bool false]) ∧ Below w.heap.size w w' := by
  have K1 := Lib.hid k1; have K2 := Lib.hid k2; have K3 := Lib.hid k3; have K4 := Lib.hid k4; clear k1 k2 k3 k4
  have DX0 := hs; clear hs
  cases g
  all_goals
    go_enter Tryz.func138, Tryz.ntmps138
    go_wp2_with fail
    refine (K1.out _ _ (DR.keep (by repeat (first | (with_reducible exact Below.refl _ _) | (with_reducible refine bal ?_ _) | (with_reducible refine Below.drew ?_) | (with_reducible refine bdn ?_ _))) DX0)).mono ?_
    rintro e w1 ⟨rfl, hb⟩
    have hbX : Below w.heap.size w w1 := btr (by repeat (first | (with_reducible exact Below.refl _ _) | (with_reducible refine bal ?_ _) | (with_reducible refine Below.drew ?_) | (with_reducible refine bdn ?_ _))) hb
    have DX1 : DR w1 s x := DR.keep hbX DX0
    clear DX0
    clear hbX
    have BW1 : Below w.heap.size w w1 := btr (by repeat (first | (with_reducible exact Below.refl _ _) | (with_reducible refine bal ?_ _) | (with_reducible refine Below.drew ?_) | (with_reducible refine bdn ?_ _))) hb
    clear hb
    go_wp2_with fail
    refine (K2.out _ _ (DR.keep (by repeat (first | (with_reducible exact Below.refl _ _) | (with_reducible refine bal ?_ _) | (with_reducible refine Below.drew ?_) | (with_reducible refine bdn ?_ _))) DX1)).mono ?_
    rintro e w2 ⟨rfl, hb⟩
    have hbX : Below w1.heap.size w1 w2 := btr (by repeat (first | (with_reducible exact Below.refl _ _) | (with_reducible refine bal ?_ _) | (with_reducible refine Below.drew ?_) | (with_reducible refine bdn ?_ _))) hb
    have DX2 : DR w2 s x := DR.keep hbX DX1
    clear DX1
    clear hbX
    have BW2 : Below w.heap.size w w2 := btr (by repeat (first | (with_reducible exact BW1) | (with_reducible refine bal ?_ _) | (with_reducible refine Below.drew ?_) | (with_reducible refine bdn ?_ _))) hb
    clear BW1
    clear hb
    go_wp2_with fail
    refine (K2.out _ _ (DR.keep (by repeat (first | (with_reducible exact Below.refl _ _) | (with_reducible refine bal ?_ _) | (with_reducible refine Below.drew ?_) | (with_reducible refine bdn ?_ _))) DX2)).mono ?_
    rintro e w3 ⟨rfl, hb⟩
    have hbX : Below w2.heap.size w2 w3 := btr (by repeat (first | (with_reducible exact Below.refl _ _) | (with_reducible refine bal ?_ _) | (with_reducible refine Below.drew ?_) | (with_reducible refine bdn ?_ _))) hb
    have DX3 : DR w3 s x := DR.keep hbX DX2
    clear DX2
    clear hbX
    have BW3 : Below w.heap.size w w3 := btr (by repeat (first | (with_reducible exact BW2) | (with_reducible refine bal ?_ _) | (with_reducible refine Below.drew ?_) | (with_reducible refine bdn ?_ _))) hb
    clear BW2
    clear hb
    go_wp2_with fail
    refine (K3.out _ _ (DR.keep (by repeat (first | (with_reducible exact Below.refl _ _) | (with_reducible refine bal ?_ _) | (with_reducible refine Below.drew ?_) | (with_reducible refine bdn ?_ _))) DX3)).mono ?_
    rintro e w4 ⟨s2, rfl, hr, hb⟩
    have hbX : Below w3.heap.size w3 w4 := btr (by repeat (first | (with_reducible exact Below.refl _ _) | (with_reducible refine bal ?_ _) | (with_reducible refine Below.drew ?_) | (with_reducible refine bdn ?_ _))) hb
    have DX4 : DR w4 s x := DR.keep hbX DX3
    clear DX3
    clear hbX
    have DO4 : DR w4 s2 o := hr
    clear hr
    have BW4 : Below w.heap.size w w4 := btr (by repeat (first | (with_reducible exact BW3) | (with_reducible refine bal ?_ _) | (with_reducible refine Below.drew ?_) | (with_reducible refine bdn ?_ _))) hb
    clear BW3
    clear hb
    go_wp2_with fail
    refine (K4.out _ _ (DR.keep (by repeat (first | (with_reducible exact Below.refl _ _) | (with_reducible refine bal ?_ _) | (with_reducible refine Below.drew ?_) | (with_reducible refine bdn ?_ _))) DO4)).mono ?_
    rintro e w5 ⟨rfl, hb⟩
    have hbX : Below w4.heap.size w4 w5 := btr (by repeat (first | (with_reducible exact Below.refl _ _) | (with_reducible refine bal ?_ _) | (with_reducible refine Below.drew ?_) | (with_reducible refine bdn ?_ _))) hb
    have DX5 : DR w5 s x := DR.keep hbX DX4
    have DO5 : DR w5 s2 o := DR.keep hbX DO4
    clear DX4 DO4
    clear hbX
    have BW5 : Below w.heap.size w w5 := btr (by repeat (first | (with_reducible exact BW4) | (with_reducible refine bal ?_ _) | (with_reducible refine Below.drew ?_) | (with_reducible refine bdn ?_ _))) hb
    clear BW4
    clear hb
    go_wp2_with fail
    refine (K4.out _ _ (DR.keep (by repeat (first | (with_reducible exact Below.refl _ _) | (with_reducible refine bal ?_ _) | (with_reducible refine Below.drew ?_) | (with_reducible refine bdn ?_ _))) DO5)).mono ?_
    rintro e w6 ⟨rfl, hb⟩
    have hbX : Below w5.heap.size w5 w6 := btr (by repeat (first | (with_reducible exact Below.refl _ _) | (with_reducible refine bal ?_ _) | (with_reducible refine Below.drew ?_) | (with_reducible refine bdn ?_ _))) hb
    have DX6 : DR w6 s x := DR.keep hbX DX5
    have DO6 : DR w6 s2 o := DR.keep hbX DO5
    clear DX5 DO5
    clear hbX
    have BW6 : Below w.heap.size w w6 := btr (by repeat (first | (with_reducible exact BW5) | (with_reducible refine bal ?_ _) | (with_reducible refine Below.drew ?_) | (with_reducible refine bdn ?_ _))) hb
    clear BW5
    clear hb
    go_wp2
    first
      | exact bodyPost_ret (v := .tuple #[.int .u64 0, .bool false]) (by simp [results, Tryz.results138, go_sem]) rfl ⟨rfl, by repeat (first | (with_reducible exact BW6) | (with_reducible refine bal ?_ _) | (with_reducible refine Below.drew ?_) | (with_reducible refine bdn ?_ _))⟩
set_option maxHeartbeats 2000000 in
set_option maxRecDepth 100000 in
theorem pack11_top (g : Bool) (s : Value) (x o t L L0 : Nat) (e : Int) (w : World) (hs : DR w s x) (he0 : -2000 ≤ e) (he1 : e ≤ 2000) (ht0 : t ≤ 2000) (hL0 : ((L0 : Int) == 0) = false) (hL : L ≤ 2000) (hl : (L : Int) ≤ 11) (ht : 15 < e + t + L - 1)
    (k1 : ∀ s' W, DR W s' x → Calls Tryz.prog 64 #[s'] W fun e w' => e = .returned (.int .i64 (L0 : Int)) ∧ Below W.heap.size W w')
    (k2 : ∀ s' W, DR W s' x → Calls Tryz.prog 162 #[s'] W fun e w' => e = .returned (.int .i64 (t : Int)) ∧ Below W.heap.size W w')
    (k3 : ∀ s' W, DR W s' x → Calls Tryz.prog 163 #[s', .int .i64 (-(t : Int))] W fun e w' => ∃ s2, e = .returned s2 ∧ DR w' s2 o ∧ Below W.heap.size W w')
    (k4 : ∀ s' W, DR W s' o → Calls Tryz.prog 64 #[s'] W fun e w' => e = .returned (.int .i64 (L : Int)) ∧ Below W.heap.size W w') :
    Calls Tryz.prog 138 #[.bool g, s, .int .i64 e, .int .i64 11, .int .i64 5] w fun e w' => e = .returned (.tuple #[.int .u64 0, .bool false]) ∧ Below w.heap.size w w' := by
  have K1 := Lib.hid k1; have K2 := Lib.hid k2; have K3 := Lib.hid k3; have K4 := Lib.hid k4; clear k1 k2 k3 k4
  have DX0 := hs; clear hs
  cases g
  all_goals
    go_enter Tryz.func138, Tryz.ntmps138
    go_wp2_with fail
    refine (K1.out _ _ (DR.keep (by repeat (first | (with_reducible exact Below.refl _ _) | (with_reducible refine bal ?_ _) | (with_reducible refine Below.drew ?_) | (with_reducible refine bdn ?_ _))) DX0)).mono ?_
    rintro e w1 ⟨rfl, hb⟩
    have hbX : Below w.heap.size w w1 := btr (by repeat (first | (with_reducible exact Below.refl _ _) | (with_reducible refine bal ?_ _) | (with_reducible refine Below.drew ?_) | (with_reducible refine bdn ?_ _))) hb
    have DX1 : DR w1 s x := DR.keep hbX DX0
    clear DX0
    clear hbX
    have BW1 : Below w.heap.size w w1 := btr (by repeat (first | (with_reducible exact Below.refl _ _) | (with_reducible refine bal ?_ _) | (with_reducible refine Below.drew ?_) | (with_reducible refine bdn ?_ _))) hb
    clear hb
    go_wp2_with fail
    refine (K2.out _ _ (DR.keep (by repeat (first | (with_reducible exact Below.refl _ _) | (with_reducible refine bal ?_ _) | (with_reducible refine Below.drew ?_) | (with_reducible refine bdn ?_ _))) DX1)).mono ?_
    rintro e w2 ⟨rfl, hb⟩
    have hbX : Below w1.heap.size w1 w2 := btr (by repeat (first | (with_reducible exact Below.refl _ _) | (with_reducible refine bal ?_ _) | (with_reducible refine Below.drew ?_) | (with_reducible refine bdn ?_ _))) hb
    have DX2 : DR w2 s x := DR.keep hbX DX1
    clear DX1
    clear hbX
    have BW2 : Below w.heap.size w w2 := btr (by repeat (first | (with_reducible exact BW1) | (with_reducible refine bal ?_ _) | (with_reducible refine Below.drew ?_) | (with_reducible refine bdn ?_ _))) hb
    clear BW1
    clear hb
    go_wp2_with fail
    refine (K2.out _ _ (DR.keep (by repeat (first | (with_reducible exact Below.refl _ _) | (with_reducible refine bal ?_ _) | (with_reducible refine Below.drew ?_) | (with_reducible refine bdn ?_ _))) DX2)).mono ?_
    rintro e w3 ⟨rfl, hb⟩
    have hbX : Below w2.heap.size w2 w3 := btr (by repeat (first | (with_reducible exact Below.refl _ _) | (with_reducible refine bal ?_ _) | (with_reducible refine Below.drew ?_) | (with_reducible refine bdn ?_ _))) hb
    have DX3 : DR w3 s x := DR.keep hbX DX2
    clear DX2
    clear hbX
    have BW3 : Below w.heap.size w w3 := btr (by repeat (first | (with_reducible exact BW2) | (with_reducible refine bal ?_ _) | (with_reducible refine Below.drew ?_) | (with_reducible refine bdn ?_ _))) hb
    clear BW2
    clear hb
    go_wp2_with fail
    refine (K3.out _ _ (DR.keep (by repeat (first | (with_reducible exact Below.refl _ _) | (with_reducible refine bal ?_ _) | (with_reducible refine Below.drew ?_) | (with_reducible refine bdn ?_ _))) DX3)).mono ?_
    rintro e w4 ⟨s2, rfl, hr, hb⟩
    have hbX : Below w3.heap.size w3 w4 := btr (by repeat (first | (with_reducible exact Below.refl _ _) | (with_reducible refine bal ?_ _) | (with_reducible refine Below.drew ?_) | (with_reducible refine bdn ?_ _))) hb
    have DX4 : DR w4 s x := DR.keep hbX DX3
    clear DX3
    clear hbX
    have DO4 : DR w4 s2 o := hr
    clear hr
    have BW4 : Below w.heap.size w w4 := btr (by repeat (first | (with_reducible exact BW3) | (with_reducible refine bal ?_ _) | (with_reducible refine Below.drew ?_) | (with_reducible refine bdn ?_ _))) hb
    clear BW3
    clear hb
    go_wp2_with fail
    refine (K4.out _ _ (DR.keep (by repeat (first | (with_reducible exact Below.refl _ _) | (with_reducible refine bal ?_ _) | (with_reducible refine Below.drew ?_) | (with_reducible refine bdn ?_ _))) DO4)).mono ?_
    rintro e w5 ⟨rfl, hb⟩
    have hbX : Below w4.heap.size w4 w5 := btr (by repeat (first | (with_reducible exact Below.refl _ _) | (with_reducible refine bal ?_ _) | (with_reducible refine Below.drew ?_) | (with_reducible refine bdn ?_ _))) hb
    have DX5 : DR w5 s x := DR.keep hbX DX4
    have DO5 : DR w5 s2 o := DR.keep hbX DO4
    clear DX4 DO4
    clear hbX
    have BW5 : Below w.heap.size w w5 := btr (by repeat (first | (with_reducible exact BW4) | (with_reducible refine bal ?_ _) | (with_reducible refine Below.drew ?_) | (with_reducible refine bdn ?_ _))) hb
    clear BW4
    clear hb
    go_wp2_with fail
    refine (K4.out _ _ (DR.keep (by repeat (first | (with_reducible exact Below.refl _ _) | (with_reducible refine bal ?_ _) | (with_reducible refine Below.drew ?_) | (with_reducible refine bdn ?_ _))) DO5)).mono ?_
    rintro e w6 ⟨rfl, hb⟩
    have hbX : Below w5.heap.size w5 w6 := btr (by repeat (first | (with_reducible exact Below.refl _ _) | (with_reducible refine bal ?_ _) | (with_reducible refine Below.drew ?_) | (with_reducible refine bdn ?_ _))) hb
    have DX6 : DR w6 s x := DR.keep hbX DX5
    have DO6 : DR w6 s2 o := DR.keep hbX DO5
    clear DX5 DO5
    clear hbX
    have BW6 : Below w.heap.size w w6 := btr (by repeat (first | (with_reducible exact BW5) | (with_reducible refine bal ?_ _) | (with_reducible refine Below.drew ?_) | (with_reducible refine bdn ?_ _))) hb
    clear BW5
    clear hb
    go_wp2
    first
      | exact bodyPost_ret (v := .tuple #[.int .u64 0, .bool false]) (by simp [results, Tryz.results138, go_sem]) rfl ⟨rfl, by repeat (first | (with_reducible exact BW6) | (with_reducible refine bal ?_ _) | (with_reducible refine Below.drew ?_) | (with_reducible refine bdn ?_ _))⟩
set_option maxHeartbeats 2000000 in
set_option maxRecDepth 100000 in
theorem pack11_low (g : Bool) (s : Value) (x o t L L0 : Nat) (e : Int) (w : World) (hs : DR w s x) (he0 : -2000 ≤ e) (he1 : e ≤ 2000) (ht0 : t ≤ 2000) (hL0 : ((L0 : Int) == 0) = false) (hL : L ≤ 2000) (hl : (L : Int) ≤ 11) (ht : e + t + L - 1 ≤ 15) (hle : e + t < -24)
    (k1 : ∀ s' W, DR W s' x → Calls Tryz.prog 64 #[s'] W fun e w' => e = .returned (.int .i64 (L0 : Int)) ∧ Below W.heap.size W w')
    (k2 : ∀ s' W, DR W s' x → Calls Tryz.prog 162 #[s'] W fun e w' => e = .returned (.int .i64 (t : Int)) ∧ Below W.heap.size W w')
    (k3 : ∀ s' W, DR W s' x → Calls Tryz.prog 163 #[s', .int .i64 (-(t : Int))] W fun e w' => ∃ s2, e = .returned s2 ∧ DR w' s2 o ∧ Below W.heap.size W w')
    (k4 : ∀ s' W, DR W s' o → Calls Tryz.prog 64 #[s'] W fun e w' => e = .returned (.int .i64 (L : Int)) ∧ Below W.heap.size W w') :
    Calls Tryz.prog 138 #[.bool g, s, .int .i64 e, .int .i64 11, .int .i64 5] w fun e w' => e = .returned (.tuple #[.int .u64 0, .bool false]) ∧ Below w.heap.size w w' := by
  have K1 := Lib.hid k1; have K2 := Lib.hid k2; have K3 := Lib.hid k3; have K4 := Lib.hid k4; clear k1 k2 k3 k4
  have DX0 := hs; clear hs
  cases g
  all_goals
    go_enter Tryz.func138, Tryz.ntmps138
    go_wp2_with fail
    refine (K1.out _ _ (DR.keep (by repeat (first | (with_reducible exact Below.refl _ _) | (with_reducible refine bal ?_ _) | (with_reducible refine Below.drew ?_) | (with_reducible refine bdn ?_ _))) DX0)).mono ?_
    rintro e w1 ⟨rfl, hb⟩
    have hbX : Below w.heap.size w w1 := btr (by repeat (first | (with_reducible exact Below.refl _ _) | (with_reducible refine bal ?_ _) | (with_reducible refine Below.drew ?_) | (with_reducible refine bdn ?_ _))) hb
    have DX1 : DR w1 s x := DR.keep hbX DX0
    clear DX0
    clear hbX
    have BW1 : Below w.heap.size w w1 := btr (by repeat (first | (with_reducible exact Below.refl _ _) | (with_reducible refine bal ?_ _) | (with_reducible refine Below.drew ?_) | (with_reducible refine bdn ?_ _))) hb
    clear hb
    go_wp2_with fail
    refine (K2.out _ _ (DR.keep (by repeat (first | (with_reducible exact Below.refl _ _) | (with_reducible refine bal ?_ _) | (with_reducible refine Below.drew ?_) | (with_reducible refine bdn ?_ _))) DX1)).mono ?_
    rintro e w2 ⟨rfl, hb⟩
    have hbX : Below w1.heap.size w1 w2 := btr (by repeat (first | (with_reducible exact Below.refl _ _) | (with_reducible refine bal ?_ _) | (with_reducible refine Below.drew ?_) | (with_reducible refine bdn ?_ _))) hb
    have DX2 : DR w2 s x := DR.keep hbX DX1
    clear DX1
    clear hbX
    have BW2 : Below w.heap.size w w2 := btr (by repeat (first | (with_reducible exact BW1) | (with_reducible refine bal ?_ _) | (with_reducible refine Below.drew ?_) | (with_reducible refine bdn ?_ _))) hb
    clear BW1
    clear hb
    go_wp2_with fail
    refine (K2.out _ _ (DR.keep (by repeat (first | (with_reducible exact Below.refl _ _) | (with_reducible refine bal ?_ _) | (with_reducible refine Below.drew ?_) | (with_reducible refine bdn ?_ _))) DX2)).mono ?_
    rintro e w3 ⟨rfl, hb⟩
    have hbX : Below w2.heap.size w2 w3 := btr (by repeat (first | (with_reducible exact Below.refl _ _) | (with_reducible refine bal ?_ _) | (with_reducible refine Below.drew ?_) | (with_reducible refine bdn ?_ _))) hb
    have DX3 : DR w3 s x := DR.keep hbX DX2
    clear DX2
    clear hbX
    have BW3 : Below w.heap.size w w3 := btr (by repeat (first | (with_reducible exact BW2) | (with_reducible refine bal ?_ _) | (with_reducible refine Below.drew ?_) | (with_reducible refine bdn ?_ _))) hb
    clear BW2
    clear hb
    go_wp2_with fail
    refine (K3.out _ _ (DR.keep (by repeat (first | (with_reducible exact Below.refl _ _) | (with_reducible refine bal ?_ _) | (with_reducible refine Below.drew ?_) | (with_reducible refine bdn ?_ _))) DX3)).mono ?_
    rintro e w4 ⟨s2, rfl, hr, hb⟩
    have hbX : Below w3.heap.size w3 w4 := btr (by repeat (first | (with_reducible exact Below.refl _ _) | (with_reducible refine bal ?_ _) | (with_reducible refine Below.drew ?_) | (with_reducible refine bdn ?_ _))) hb
    have DX4 : DR w4 s x := DR.keep hbX DX3
    clear DX3
    clear hbX
    have DO4 : DR w4 s2 o := hr
    clear hr
    have BW4 : Below w.heap.size w w4 := btr (by repeat (first | (with_reducible exact BW3) | (with_reducible refine bal ?_ _) | (with_reducible refine Below.drew ?_) | (with_reducible refine bdn ?_ _))) hb
    clear BW3
    clear hb
    go_wp2_with fail
    refine (K4.out _ _ (DR.keep (by repeat (first | (with_reducible exact Below.refl _ _) | (with_reducible refine bal ?_ _) | (with_reducible refine Below.drew ?_) | (with_reducible refine bdn ?_ _))) DO4)).mono ?_
    rintro e w5 ⟨rfl, hb⟩
    have hbX : Below w4.heap.size w4 w5 := btr (by repeat (first | (with_reducible exact Below.refl _ _) | (with_reducible refine bal ?_ _) | (with_reducible refine Below.drew ?_) | (with_reducible refine bdn ?_ _))) hb
    have DX5 : DR w5 s x := DR.keep hbX DX4
    have DO5 : DR w5 s2 o := DR.keep hbX DO4
    clear DX4 DO4
    clear hbX
    have BW5 : Below w.heap.size w w5 := btr (by repeat (first | (with_reducible exact BW4) | (with_reducible refine bal ?_ _) | (with_reducible refine Below.drew ?_) | (with_reducible refine bdn ?_ _))) hb
    clear BW4
    clear hb
    go_wp2_with fail
    refine (K4.out _ _ (DR.keep (by repeat (first | (with_reducible exact Below.refl _ _) | (with_reducible refine bal ?_ _) | (with_reducible refine Below.drew ?_) | (with_reducible refine bdn ?_ _))) DO5)).mono ?_
    rintro e w6 ⟨rfl, hb⟩
    have hbX : Below w5.heap.size w5 w6 := btr (by repeat (first | (with_reducible exact Below.refl _ _) | (with_reducible refine bal ?_ _) | (with_reducible refine Below.drew ?_) | (with_reducible refine bdn ?_ _))) hb
    have DX6 : DR w6 s x := DR.keep hbX DX5
    have DO6 : DR w6 s2 o := DR.keep hbX DO5
    clear DX5 DO5
    clear hbX
    have BW6 : Below w.heap.size w w6 := btr (by repeat (first | (with_reducible exact BW5) | (with_reducible refine bal ?_ _) | (with_reducible refine Below.drew ?_) | (with_reducible refine bdn ?_ _))) hb
    clear BW5
    clear hb
    go_wp2
    first
      | exact bodyPost_ret (v := .tuple #[.int .u64 0, .bool false]) (by simp [results, Tryz.results138, go_sem]) rfl ⟨rfl, by repeat (first | (with_reducible exact BW6) | (with_reducible refine bal ?_ _) | (with_reducible refine Below.drew ?_) | (with_reducible refine bdn ?_ _))⟩
end Go.Proofs.YtfaaagmjmljhiaaGreatDoor
end
end
section
section
namespace Go.Proofs.YtfaaagmjmljhiaaGreatDoor
open Go.RowKit Go.Shelf

set_option maxHeartbeats 2000000 in
set_option maxRecDepth 100000 in
theorem thin11_fin (g : Bool) (b : Int) (D : Nat) (E r : Int) (q : Bool) (w : World)
    (k1 : ∀ W, Calls Tryz.prog 137 #[.int .u64 b] W fun e w' => ∃ s', e = .returned (.tuple #[.bool g, s', .int .i64 E, .bool true]) ∧ DR w' s' D ∧ Below W.heap.size W w')
    (k2 : ∀ s' W, DR W s' D → Calls Tryz.prog 138 #[.bool g, s', .int .i64 E, .int .i64 11, .int .i64 5] W fun e w' => e = .returned (.tuple #[.int .u64 r, .bool q]) ∧ Below W.heap.size W w') :
    Calls Tryz.prog 104 #[.int .u64 b, .int .i64 11, .int .i64 5] w fun e w' => e = .returned (.tuple #[.int .u64 r, .bool q]) ∧ Below w.heap.size w w' := by
  have K1 := Lib.hid k1; clear k1; have K2 := Lib.hid k2; clear k2
  go_enter Tryz.func104, Tryz.ntmps104
  go_wp2_with fail
  refine (K1.out _).mono ?_
  rintro e w1 ⟨s1, rfl, hr, hb⟩
  have hbX : Below w.heap.size w w1 := btr (by repeat (first | (with_reducible exact Below.refl _ _) | (with_reducible refine bal ?_ _) | (with_reducible refine Below.drew ?_) | (with_reducible refine bdn ?_ _))) hb
  clear hbX
  have DD1 : DR w1 s1 D := hr
  clear hr
  have BW1 : Below w.heap.size w w1 := btr (by repeat (first | (with_reducible exact Below.refl _ _) | (with_reducible refine bal ?_ _) | (with_reducible refine Below.drew ?_) | (with_reducible refine bdn ?_ _))) hb
  clear hb
  go_wp2_with fail
  refine (K2.out _ _ (DR.keep (by repeat (first | (with_reducible exact Below.refl _ _) | (with_reducible refine bal ?_ _) | (with_reducible refine Below.drew ?_) | (with_reducible refine bdn ?_ _))) DD1)).mono ?_
  rintro e w2 ⟨rfl, hb⟩
  have hbX : Below w1.heap.size w1 w2 := btr (by repeat (first | (with_reducible exact Below.refl _ _) | (with_reducible refine bal ?_ _) | (with_reducible refine Below.drew ?_) | (with_reducible refine bdn ?_ _))) hb
  have DD2 : DR w2 s1 D := DR.keep hbX DD1
  clear DD1
  clear hbX
  have BW2 : Below w.heap.size w w2 := btr (by repeat (first | (with_reducible exact BW1) | (with_reducible refine bal ?_ _) | (with_reducible refine Below.drew ?_) | (with_reducible refine bdn ?_ _))) hb
  clear BW1
  clear hb
  go_wp2
  exact bodyPost_ret (v := .tuple #[.int .u64 r, .bool q]) (by simp [results, Tryz.results104, go_sem]) rfl ⟨rfl, BW2⟩
set_option maxHeartbeats 2000000 in
set_option maxRecDepth 100000 in
theorem thin11_nan (g : Bool) (b : Int) (m : Int) (h3 : bits .and .u64 b 4503599627370495 = m) (hm : (m != 0) = true) (w : World)
    (k1 : ∀ W, Calls Tryz.prog 137 #[.int .u64 b] W fun e w' => e = .returned (.tuple #[.bool g, .slice none 0 0, .int .i64 0, .bool false]) ∧ Below W.heap.size W w') :
    Calls Tryz.prog 104 #[.int .u64 b, .int .i64 11, .int .i64 5] w fun e w' => e = .returned (.tuple #[.int .u64 32256, .bool true]) ∧ Below w.heap.size w w' := by
  have K1 := Lib.hid k1; clear k1
  have hor : bits .or .u64 31744 512 = 32256 := by kernel_rfl
  have hor2 : bits .or .u64 31744 32768 = 64512 := by kernel_rfl
  go_enter Tryz.func104, Tryz.ntmps104
  go_wp2_with fail
  refine (K1.out _).mono ?_
  rintro e w1 ⟨rfl, hb⟩
  have BW1 : Below w.heap.size w w1 := btr (by repeat (first | (with_reducible exact Below.refl _ _) | (with_reducible refine bal ?_ _) | (with_reducible refine Below.drew ?_) | (with_reducible refine bdn ?_ _))) hb
  clear hb
  go_wp2
  exact bodyPost_ret (v := .tuple #[.int .u64 32256, .bool true]) (by simp [results, Tryz.results104, go_sem]) rfl ⟨rfl, BW1⟩
set_option maxHeartbeats 2000000 in
set_option maxRecDepth 100000 in
theorem thin11_inf (b : Int) (m : Int) (h3 : bits .and .u64 b 4503599627370495 = m) (hm : (m != 0) = false) (w : World)
    (k1 : ∀ W, Calls Tryz.prog 137 #[.int .u64 b] W fun e w' => e = .returned (.tuple #[.bool false, .slice none 0 0, .int .i64 0, .bool false]) ∧ Below W.heap.size W w') :
    Calls Tryz.prog 104 #[.int .u64 b, .int .i64 11, .int .i64 5] w fun e w' => e = .returned (.tuple #[.int .u64 31744, .bool true]) ∧ Below w.heap.size w w' := by
  have K1 := Lib.hid k1; clear k1
  have hor : bits .or .u64 31744 512 = 32256 := by kernel_rfl
  have hor2 : bits .or .u64 31744 32768 = 64512 := by kernel_rfl
  go_enter Tryz.func104, Tryz.ntmps104
  go_wp2_with fail
  refine (K1.out _).mono ?_
  rintro e w1 ⟨rfl, hb⟩
  have BW1 : Below w.heap.size w w1 := btr (by repeat (first | (with_reducible exact Below.refl _ _) | (with_reducible refine bal ?_ _) | (with_reducible refine Below.drew ?_) | (with_reducible refine bdn ?_ _))) hb
  clear hb
  go_wp2
  exact bodyPost_ret (v := .tuple #[.int .u64 31744, .bool true]) (by simp [results, Tryz.results104, go_sem]) rfl ⟨rfl, BW1⟩
set_option maxHeartbeats 2000000 in
set_option maxRecDepth 100000 in
theorem thin11_ninf (b : Int) (m : Int) (h3 : bits .and .u64 b 4503599627370495 = m) (hm : (m != 0) = false) (w : World)
    (k1 : ∀ W, Calls Tryz.prog 137 #[.int .u64 b] W fun e w' => e = .returned (.tuple #[.bool true, .slice none 0 0, .int .i64 0, .bool false]) ∧ Below W.heap.size W w') :
    Calls Tryz.prog 104 #[.int .u64 b, .int .i64 11, .int .i64 5] w fun e w' => e = .returned (.tuple #[.int .u64 64512, .bool true]) ∧ Below w.heap.size w w' := by
  have K1 := Lib.hid k1; clear k1
  have hor : bits .or .u64 31744 512 = 32256 := by kernel_rfl
  have hor2 : bits .or .u64 31744 32768 = 64512 := by kernel_rfl
  go_enter Tryz.func104, Tryz.ntmps104
  go_wp2_with fail
  refine (K1.out _).mono ?_
  rintro e w1 ⟨rfl, hb⟩
  have BW1 : Below w.heap.size w w1 := btr (by repeat (first | (with_reducible exact Below.refl _ _) | (with_reducible refine bal ?_ _) | (with_reducible refine Below.drew ?_) | (with_reducible refine bdn ?_ _))) hb
  clear hb
  go_wp2
  exact bodyPost_ret (v := .tuple #[.int .u64 64512, .bool true]) (by simp [results, Tryz.results104, go_sem]) rfl ⟨rfl, BW1⟩
end Go.Proofs.YtfaaagmjmljhiaaGreatDoor
end
section
namespace Go.Proofs.YtfaaagmjmljhiaaGreatDoor
open Go.RowKit Go.Shelf

set_option maxHeartbeats 2000000 in
set_option maxRecDepth 100000 in
theorem thin24_fin (g : Bool) (b : Int) (D : Nat) (E r : Int) (q : Bool) (w : World)
    (k1 : ∀ W, Calls Tryz.prog 137 #[.int .u64 b] W fun e w' => ∃ s', e = .returned (.tuple #[.bool g, s', .int .i64 E, .bool true]) ∧ DR w' s' D ∧ Below W.heap.size W w')
    (k2 : ∀ s' W, DR W s' D → Calls Tryz.prog 138 #[.bool g, s', .int .i64 E, .int .i64 24, .int .i64 8] W fun e w' => e = .returned (.tuple #[.int .u64 r, .bool q]) ∧ Below W.heap.size W w') :
    Calls Tryz.prog 104 #[.int .u64 b, .int .i64 24, .int .i64 8] w fun e w' => e = .returned (.tuple #[.int .u64 r, .bool q]) ∧ Below w.heap.size w w' := by
  have K1 := Lib.hid k1; clear k1; have K2 := Lib.hid k2; clear k2
  go_enter Tryz.func104, Tryz.ntmps104
  go_wp2_with fail
  refine (K1.out _).mono ?_
  rintro e w1 ⟨s1, rfl, hr, hb⟩
  have hbX : Below w.heap.size w w1 := btr (by repeat (first | (with_reducible exact Below.refl _ _) | (with_reducible refine bal ?_ _) | (with_reducible refine Below.drew ?_) | (with_reducible refine bdn ?_ _))) hb
  clear hbX
  have DD1 : DR w1 s1 D := hr
  clear hr
  have BW1 : Below w.heap.size w w1 := btr (by repeat (first | (with_reducible exact Below.refl _ _) | (with_reducible refine bal ?_ _) | (with_reducible refine Below.drew ?_) | (with_reducible refine bdn ?_ _))) hb
  clear hb
  go_wp2_with fail
  refine (K2.out _ _ (DR.keep (by repeat (first | (with_reducible exact Below.refl _ _) | (with_reducible refine bal ?_ _) | (with_reducible refine Below.drew ?_) | (with_reducible refine bdn ?_ _))) DD1)).mono ?_
  rintro e w2 ⟨rfl, hb⟩
  have hbX : Below w1.heap.size w1 w2 := btr (by repeat (first | (with_reducible exact Below.refl _ _) | (with_reducible refine bal ?_ _) | (with_reducible refine Below.drew ?_) | (with_reducible refine bdn ?_ _))) hb
  have DD2 : DR w2 s1 D := DR.keep hbX DD1
  clear DD1
  clear hbX
  have BW2 : Below w.heap.size w w2 := btr (by repeat (first | (with_reducible exact BW1) | (with_reducible refine bal ?_ _) | (with_reducible refine Below.drew ?_) | (with_reducible refine bdn ?_ _))) hb
  clear BW1
  clear hb
  go_wp2
  exact bodyPost_ret (v := .tuple #[.int .u64 r, .bool q]) (by simp [results, Tryz.results104, go_sem]) rfl ⟨rfl, BW2⟩
set_option maxHeartbeats 2000000 in
set_option maxRecDepth 100000 in
theorem thin24_nan (g : Bool) (b : Int) (m : Int) (h3 : bits .and .u64 b 4503599627370495 = m) (hm : (m != 0) = true) (w : World)
    (k1 : ∀ W, Calls Tryz.prog 137 #[.int .u64 b] W fun e w' => e = .returned (.tuple #[.bool g, .slice none 0 0, .int .i64 0, .bool false]) ∧ Below W.heap.size W w') :
    Calls Tryz.prog 104 #[.int .u64 b, .int .i64 24, .int .i64 8] w fun e w' => e = .returned (.tuple #[.int .u64 2143289344, .bool true]) ∧ Below w.heap.size w w' := by
  have K1 := Lib.hid k1; clear k1
  have hor : bits .or .u64 2139095040 4194304 = 2143289344 := by kernel_rfl
  have hor2 : bits .or .u64 2139095040 2147483648 = 4286578688 := by kernel_rfl
  go_enter Tryz.func104, Tryz.ntmps104
  go_wp2_with fail
  refine (K1.out _).mono ?_
  rintro e w1 ⟨rfl, hb⟩
  have BW1 : Below w.heap.size w w1 := btr (by repeat (first | (with_reducible exact Below.refl _ _) | (with_reducible refine bal ?_ _) | (with_reducible refine Below.drew ?_) | (with_reducible refine bdn ?_ _))) hb
  clear hb
  go_wp2
  exact bodyPost_ret (v := .tuple #[.int .u64 2143289344, .bool true]) (by simp [results, Tryz.results104, go_sem]) rfl ⟨rfl, BW1⟩
set_option maxHeartbeats 2000000 in
set_option maxRecDepth 100000 in
theorem thin24_inf (b : Int) (m : Int) (h3 : bits .and .u64 b 4503599627370495 = m) (hm : (m != 0) = false) (w : World)
    (k1 : ∀ W, Calls Tryz.prog 137 #[.int .u64 b] W fun e w' => e = .returned (.tuple #[.bool false, .slice none 0 0, .int .i64 0, .bool false]) ∧ Below W.heap.size W w') :
    Calls Tryz.prog 104 #[.int .u64 b, .int .i64 24, .int .i64 8] w fun e w' => e = .returned (.tuple #[.int .u64 2139095040, .bool true]) ∧ Below w.heap.size w w' := by
  have K1 := Lib.hid k1; clear k1
  have hor : bits .or .u64 2139095040 4194304 = 2143289344 := by kernel_rfl
  have hor2 : bits .or .u64 2139095040 2147483648 = 4286578688 := by kernel_rfl
  go_enter Tryz.func104, Tryz.ntmps104
  go_wp2_with fail
  refine (K1.out _).mono ?_
  rintro e w1 ⟨rfl, hb⟩
  have BW1 : Below w.heap.size w w1 := btr (by repeat (first | (with_reducible exact Below.refl _ _) | (with_reducible refine bal ?_ _) | (with_reducible refine Below.drew ?_) | (with_reducible refine bdn ?_ _))) hb
  clear hb
  go_wp2
  exact bodyPost_ret (v := .tuple #[.int .u64 2139095040, .bool true]) (by simp [results, Tryz.results104, go_sem]) rfl ⟨rfl, BW1⟩
set_option maxHeartbeats 2000000 in
set_option maxRecDepth 100000 in
theorem thin24_ninf (b : Int) (m : Int) (h3 : bits .and .u64 b 4503599627370495 = m) (hm : (m != 0) = false) (w : World)
    (k1 : ∀ W, Calls Tryz.prog 137 #[.int .u64 b] W fun e w' => e = .returned (.tuple #[.bool true, .slice none 0 0, .int .i64 0, .bool false]) ∧ Below W.heap.size W w') :
    Calls Tryz.prog 104 #[.int .u64 b, .int .i64 24, .int .i64 8] w fun e w' => e = .returned (.tuple #[.int .u64 4286578688, .bool true]) ∧ Below w.heap.size w w' := by
  have K1 := Lib.hid k1; clear k1
  have hor : bits .or .u64 2139095040 4194304 = 2143289344 := by kernel_rfl
  have hor2 : bits .or .u64 2139095040 2147483648 = 4286578688 := by kernel_rfl
  go_enter Tryz.func104, Tryz.ntmps104
  go_wp2_with fail
  refine (K1.out _).mono ?_
  rintro e w1 ⟨rfl, hb⟩
  have BW1 : Below w.heap.size w w1 := btr (by repeat (first | (with_reducible exact Below.refl _ _) | (with_reducible refine bal ?_ _) | (with_reducible refine Below.drew ?_) | (with_reducible refine bdn ?_ _))) hb
  clear hb
  go_wp2
  exact bodyPost_ret (v := .tuple #[.int .u64 4286578688, .bool true]) (by simp [results, Tryz.results104, go_sem]) rfl ⟨rfl, BW1⟩
end Go.Proofs.YtfaaagmjmljhiaaGreatDoor
end
section
namespace Go.Proofs.YtfaaagmjmljhiaaGreatDoor
open Go.RowKit Go.Shelf

theorem rthin_Half (b r : Int) (q : Bool) (h0 : 0 ≤ r) (h1 : r < 65536) (w : World)
    (k1 : ∀ W, Calls Tryz.prog 104 #[.int .u64 b, .int .i64 11, .int .i64 5] W fun e w' => e = .returned (.tuple #[.int .u64 r, .bool q]) ∧ Below W.heap.size W w') :
    Calls Tryz.prog 65 #[.int .u64 b] w fun e w' => e = .returned (.tuple #[.int .u16 r, .bool q]) ∧ Below w.heap.size w w' := by
  have K1 := Lib.hid k1; clear k1
  have w1 : IntKind.u16.wrap r = r := by rw [IntKind.wrap_u16]; omega
  go_enter Tryz.func65, Tryz.ntmps65
  go_wp2_with fail
  refine (K1.out _).mono ?_
  rintro e w1 ⟨rfl, hb⟩
  have BW1 : Below w.heap.size w w1 := btr (by repeat (first | (with_reducible exact Below.refl _ _) | (with_reducible refine bal ?_ _) | (with_reducible refine Below.drew ?_) | (with_reducible refine bdn ?_ _))) hb
  clear hb
  go_wp2
  exact bodyPost_ret (v := .tuple #[.int .u16 r, .bool q]) (by simp [results, Tryz.results65, go_sem]) rfl ⟨rfl, BW1⟩
theorem rthin_Single (b r : Int) (q : Bool) (h0 : 0 ≤ r) (h1 : r < 4294967296) (w : World)
    (k1 : ∀ W, Calls Tryz.prog 104 #[.int .u64 b, .int .i64 24, .int .i64 8] W fun e w' => e = .returned (.tuple #[.int .u64 r, .bool q]) ∧ Below W.heap.size W w') :
    Calls Tryz.prog 66 #[.int .u64 b] w fun e w' => e = .returned (.tuple #[.int .u32 r, .bool q]) ∧ Below w.heap.size w w' := by
  have K1 := Lib.hid k1; clear k1
  have w1 : IntKind.u32.wrap r = r := by rw [IntKind.wrap_u32]; omega
  go_enter Tryz.func66, Tryz.ntmps66
  go_wp2_with fail
  refine (K1.out _).mono ?_
  rintro e w1 ⟨rfl, hb⟩
  have BW1 : Below w.heap.size w w1 := btr (by repeat (first | (with_reducible exact Below.refl _ _) | (with_reducible refine bal ?_ _) | (with_reducible refine Below.drew ?_) | (with_reducible refine bdn ?_ _))) hb
  clear hb
  go_wp2
  exact bodyPost_ret (v := .tuple #[.int .u32 r, .bool q]) (by simp [results, Tryz.results66, go_sem]) rfl ⟨rfl, BW1⟩
end Go.Proofs.YtfaaagmjmljhiaaGreatDoor
end
section
namespace Go.Proofs.YtfaaagmjmljhiaaGreatDoor
open Ieee

/-- The odd part of a number, and how many noughts stand behind it. -/
theorem odd_of {D : Nat} (h0 : D ≠ 0) (h : D < 2 ^ 256) : ∃ d m t, d = 2 * m + 1 ∧ D = d * 2 ^ t ∧ t = tz D ∧ D.log2 = d.log2 + t ∧ D / 2 ^ t = d := by
  obtain ⟨⟨m, hm⟩, _⟩ := tz_spec h0 h
  have hD : D = (2 * m + 1) * 2 ^ tz D := by rw [Nat.mul_comm]; exact hm
  refine ⟨2 * m + 1, m, tz D, rfl, hD, rfl, ?_, ?_⟩
  · have := lg_mul (2 * m + 1) (tz D) (by omega)
    rw [← hD] at this
    exact this
  · have : (2 * m + 1) * 2 ^ tz D / 2 ^ tz D = 2 * m + 1 := Nat.mul_div_cancel _ (Nat.two_pow_pos _)
    rw [← hD] at this
    exact this
theorem fill_le {n k j : Nat} (h : n + 1 ≤ j) (hj : j = k + 1) (hk : k ≤ 52) : n + (k - n) ≤ 52 := by omega
theorem lg_lt {n k : Nat} (h : n < 2 ^ k) (h0 : n ≠ 0) : n.log2 < k := (Nat.log2_lt h0).2 h
theorem lt_lg {n k : Nat} (h : n.log2 < k) (h0 : n ≠ 0) : n < 2 ^ k := (Nat.log2_lt h0).1 h
/-- A normal word is its digits by their power of two. -/
theorem nr_word {r : Nat} (h0 : 4503599627370496 ≤ r) (h1 : r < INF) : dg r = 4503599627370496 + r % 4503599627370496 ∧ ex r = (r / 4503599627370496 : Nat) - 1075 ∧ (dg r).log2 = 52 ∧ nr (dg r) (ex r) = r := by
  have hI : INF = 9218868437227405312 := rfl
  have hf : r / 4503599627370496 % 2048 = r / 4503599627370496 := Nat.mod_eq_of_lt (by omega)
  have hd : dg r = 4503599627370496 + r % 4503599627370496 := by
    unfold dg
    rw [hf, if_neg (by omega)]
    omega
  have he : ex r = (r / 4503599627370496 : Nat) - 1075 := by
    unfold ex
    rw [hf, if_neg (by omega)]
  have hl : (dg r).log2 = 52 := lg_unique (by rw [hd, show (2 : Nat) ^ 52 = 4503599627370496 from by decide]; omega) (by rw [hd, show (2 : Nat) ^ (52 + 1) = 9007199254740992 from by decide]; omega)
  refine ⟨hd, he, hl, ?_⟩
  unfold nr
  rw [hl, he, hd]
  simp only [Nat.sub_self, Nat.pow_zero, Nat.mul_one]
  omega
theorem dg_small {b : Nat} (h : rg b < 4503599627370496) : dg b < 4503599627370496 ∧ ex b = -1074 ∧ dg b = rg b := by
  have hf : b / 4503599627370496 % 2048 = 0 := by unfold rg at h; omega
  unfold dg ex
  rw [if_pos hf, if_pos hf]
  unfold rg at h ⊢
  omega
theorem ex_rg (b : Nat) : ex b = ex (rg b) := by
  unfold ex
  have e2 : rg b / 4503599627370496 % 2048 = b / 4503599627370496 % 2048 := by unfold rg; omega
  rw [e2]
/-- The parts of a word that is digits by a power of two. -/
theorem nr_digits {b M : Nat} {P : Int} (h : M ≠ 0) (hl : M.log2 ≤ 52) (h0 : -1022 ≤ P + (M.log2 : Nat)) (h1 : P + (M.log2 : Nat) ≤ 1023) (hb : rg b = nr M P) :
    dg b = M * 2 ^ (52 - M.log2) ∧ ex b = P - (52 - M.log2 : Nat) := by
  obtain ⟨s1, s2, s3, s4, _⟩ := nr_spec h hl h0 h1
  obtain ⟨w1, w2, _, _⟩ := nr_word s4 s1
  rw [← hb] at s1 s2 s3 s4 w1 w2
  have a : mg double (rg b) = 4503599627370496 + rg b % 4503599627370496 := by
    unfold mg
    rw [dbl_binade, if_neg (Nat.not_lt.2 s4)]
  have c : pl double (rg b) = -1074 + ((rg b / 4503599627370496 - 1 : Nat) : Int) := by
    unfold pl
    rw [dbl_binade, dbl_least, if_neg (Nat.not_lt.2 s4)]
  refine ⟨by rw [dg_rg, w1, ← a, s2], ?_⟩
  rw [ex_rg, w2, ← s3, c]
  have h5 : 1 ≤ rg b / 4503599627370496 := (Nat.le_div_iff_mul_le (by decide)).2 (by rw [Nat.one_mul]; exact s4)
  clear a c s1 s2 s3 s4 w1 w2 hb h0 h1
  omega
/-- Where a word comes of few digits: its odd part and its last place. -/
theorem nr_fit {b M d m t : Nat} {P : Int} (h : M ≠ 0) (hl : M.log2 ≤ 52) (h0 : -1022 ≤ P + (M.log2 : Nat)) (h1 : P + (M.log2 : Nat) ≤ 1023) (hb : rg b = nr M P) (hd : d = 2 * m + 1) (e : dg b = d * 2 ^ t) :
    d.log2 ≤ M.log2 ∧ P ≤ ex b + t ∧ ex b + t + (d.log2 : Nat) = P + (M.log2 : Nat) := by
  obtain ⟨a1, a2⟩ := nr_digits h hl h0 h1 hb
  have hM : M < 2 ^ 256 := Nat.lt_of_lt_of_le (lt_lg (k := 53) (by omega) h) (Nat.pow_le_pow_right (by decide) (by decide))
  obtain ⟨dM, mM, tM, c1, c2, _, c4, _⟩ := odd_of h hM
  have hdg : dg b = dM * 2 ^ (tM + (52 - M.log2)) := by rw [a1, Nat.pow_add, ← Nat.mul_assoc, ← c2]
  have hdg256 : dg b < 2 ^ 256 := Nat.lt_of_lt_of_le (dg_lt b) (by decide)
  have u1 := tz_unique (x := dg b) (k := t) (m := m) hdg256 (by rw [e, hd, Nat.mul_comm])
  have u2 := tz_unique (x := dg b) (k := tM + (52 - M.log2)) (m := mM) hdg256 (by rw [hdg, c1, Nat.mul_comm])
  have ht : t = tM + (52 - M.log2) := by omega
  have hdd : d = dM := by
    rw [e, ht] at hdg
    exact Nat.eq_of_mul_eq_mul_right (Nat.two_pow_pos _) hdg
  subst hdd
  omega
/-- Digits by a power of two in less bits: so many of digits, the greatest power of the first, the least one of the last; the sign's place. -/
def pk (digits bias least' sgn : Nat) (g : Bool) (D : Nat) (E : Int) : Nat × Bool :=
  if D = 0 then (g.toNat * sgn, true)
  else if (D / 2 ^ tz D).log2 + 1 ≤ digits ∧ E + tz D + ((D / 2 ^ tz D).log2 : Nat) ≤ bias ∧ -(least' : Int) ≤ E + tz D then
    (g.toNat * sgn + (if E + tz D + ((D / 2 ^ tz D).log2 : Nat) < 1 - (bias : Int) then D / 2 ^ tz D * 2 ^ (E + tz D + least').toNat else (E + tz D + ((D / 2 ^ tz D).log2 : Nat) + bias - 1).toNat * 2 ^ (digits - 1) + D / 2 ^ tz D * 2 ^ (digits - 1 - (D / 2 ^ tz D).log2)), true)
  else (0, false)
theorem dg_zero {b : Nat} (h : dg b = 0) : rg b = 0 := by
  unfold dg at h
  split at h
  · unfold rg; omega
  · omega
theorem sg_two {b : Nat} (hb : b < 18446744073709551616) : sg b < 2 ∧ (sg b == 1).toNat = sg b := by
  have : sg b < 2 := by unfold sg; omega
  refine ⟨this, ?_⟩
  have h2 : sg b = 0 ∨ sg b = 1 := by omega
  rcases h2 with h2 | h2 <;> rw [h2] <;> rfl
/-- A finite word whose parts fit is the digits by that power. -/
theorem word_fit {b d t : Nat} (hf : rg b < INF) (e : dg b = d * 2 ^ t) (h0 : dg b ≠ 0) (hl : (dg b).log2 = d.log2 + t) (hp : -200 ≤ ex b + t + (d.log2 : Nat)) : nr d (ex b + t) = rg b := by
  have hd0 : d ≠ 0 := by intro h; rw [h, Nat.zero_mul] at e; exact h0 e
  have hn : 4503599627370496 ≤ rg b := by
    rcases Nat.lt_or_ge (rg b) 4503599627370496 with h | h
    · exfalso
      obtain ⟨s1, s2, _⟩ := dg_small h
      have := lg_lt (k := 52) s1 h0
      omega
    · exact h
  obtain ⟨_, _, w3, w4⟩ := nr_word hn hf
  rw [← dg_rg, ← ex_rg] at w4
  rw [← dg_rg] at w3
  have := nr_scale (d := d) (p := ex b + t) t hd0 (by omega)
  rw [← this, ← e, show ex b + (t : Int) - (t : Int) = ex b from by omega, w4]
set_option maxHeartbeats 1000000 in
theorem pk_tos {b : Nat} (hb : b < 18446744073709551616) (hf : rg b < INF) : pk 24 127 149 2147483648 (sg b == 1) (dg b) (ex b) = tos b := by
  obtain ⟨hs2, hsg⟩ := sg_two hb
  have hw := word_of b
  have hI : INF = 9218868437227405312 := rfl
  unfold pk
  rw [hsg]
  by_cases h0 : dg b = 0
  · rw [if_pos h0]
    have hr := dg_zero h0
    have hx : sng (sg b * 2147483648) = b := by
      unfold sng
      rw [show sg b * 2147483648 % 2147483648 = 0 from by omega, show sg b * 2147483648 / 2147483648 = sg b from by omega]
      simp only [if_true]
      rw [if_neg (by decide), if_neg (by decide)]
      omega
    have := sng_back (s := sg b * 2147483648) (by omega) (by omega)
    rw [hx] at this
    exact this.symm
  · rw [if_neg h0]
    have hD : dg b < 2 ^ 256 := Nat.lt_of_lt_of_le (dg_lt b) (by decide)
    obtain ⟨d, m, t, hd, e, et, hlg, hdiv⟩ := odd_of h0 hD
    rw [← et, hdiv]
    have hd0 : d ≠ 0 := by omega
    by_cases hfit : d.log2 + 1 ≤ 24 ∧ ex b + t + (d.log2 : Nat) ≤ (127 : Nat) ∧ -((149 : Nat) : Int) ≤ ex b + t
    · rw [if_pos hfit]
      obtain ⟨f1, f2, f3⟩ := hfit
      have hwf := word_fit hf e h0 hlg (by omega)
      have key : ∀ v : Nat, v ≠ 0 → v < 2139095040 → nr (mg single v) (pl single v) = rg b → (sg b * 2147483648 + v, true) = tos b := fun v v0 v1 hv => by
        have hx : sng (sg b * 2147483648 + v) = b := by
          unfold sng
          rw [show (sg b * 2147483648 + v) % 2147483648 = v from by omega, show (sg b * 2147483648 + v) / 2147483648 = sg b from by omega, if_neg (by omega), if_neg (by omega), if_neg v0, hv]
          exact hw.symm
        have := sng_back (s := sg b * 2147483648 + v) (by omega) (by omega)
        rw [hx] at this
        exact this.symm
      by_cases hsub : ex b + t + (d.log2 : Nat) < 1 - ((127 : Nat) : Int)
      · rw [if_pos hsub]
        obtain ⟨k, hk⟩ : ∃ k : Nat, ex b + t + ((149 : Nat) : Int) = k := ⟨(ex b + t + ((149 : Nat) : Int)).toNat, by omega⟩
        rw [show (ex b + (t : Int) + ((149 : Nat) : Int)).toNat = k from by omega]
        have hlk := lg_mul d k hd0
        have hv0 : d * 2 ^ k ≠ 0 := by
          have := Nat.mul_pos (show 0 < d by omega) (Nat.two_pow_pos k)
          omega
        have hv1 : d * 2 ^ k < 8388608 := by
          have := lt_lg (k := 23) (n := d * 2 ^ k) (by omega) hv0
          rw [show (2 : Nat) ^ 23 = 8388608 from by decide] at this
          exact this
        refine key _ hv0 (by omega) ?_
        unfold mg pl
        rw [sgl_binade, sgl_least, if_pos hv1, if_pos hv1, ← hwf]
        have := nr_scale (d := d) (p := ex b + t) k hd0 (by omega)
        rw [← this]
        congr 1
        omega
      · rw [if_neg hsub]
        have hns := ns_spec (d := d) (p := ex b + t) hd0 (by omega) (by omega) (by omega)
        have hv : (ex b + (t : Int) + (d.log2 : Nat) + ((127 : Nat) : Int) - 1).toNat * 2 ^ (24 - 1) + d * 2 ^ (24 - 1 - d.log2) = ns d (ex b + t) := by
          unfold ns
          have e1 : (ex b + (t : Int) + (d.log2 : Nat) + ((127 : Nat) : Int) - 1) = (ex b + (t : Int) + (d.log2 : Nat) + 126) := by omega
          rw [e1, show 24 - 1 = 23 from rfl, show (2 : Nat) ^ 23 = 8388608 from by decide]
        rw [hv]
        refine key _ hns.2.2.2 hns.1 ?_
        rw [hns.2.1, hns.2.2.1, ← hwf]
        exact nr_scale (d := d) (p := ex b + t) (23 - d.log2) hd0 (fill_le f1 rfl (by decide))
    · rw [if_neg hfit]
      unfold tos
      rw [if_neg (by omega), if_neg (by omega)]
      rw [if_neg]
      intro hx
      have hts := (tosr_bound hb).1
      generalize tosr b = s at hx hts
      have hb2 : rg b = rg (sng s) := by rw [hx]
      unfold sng at hb2
      by_cases c1 : 2139095040 < s % 2147483648
      · rw [if_pos c1] at hb2
        have := nan_rg
        omega
      · rw [if_neg c1] at hb2
        by_cases c2 : s % 2147483648 = 2139095040
        · rw [if_pos c2, (word_parts (by decide)).1] at hb2
          omega
        · rw [if_neg c2] at hb2
          by_cases c3 : s % 2147483648 = 0
          · rw [if_pos c3, (word_parts (by decide)).1] at hb2
            obtain ⟨_, _, s3⟩ := dg_small (b := b) (by omega)
            omega
          · rw [if_neg c3] at hb2
            obtain ⟨p1, p2, p3, p4⟩ := single_parts c3 (by omega)
            have hn := (nr_spec (d := mg single (s % 2147483648)) (p := pl single (s % 2147483648)) p1 (by omega) (by omega) (by omega)).1
            rw [(word_parts (by omega)).1] at hb2
            obtain ⟨q1, q2, q3⟩ := nr_fit p1 (by omega) (by omega) (by omega) hb2 hd e
            have hpl : -149 ≤ pl single (s % 2147483648) := by
              unfold pl
              rw [sgl_least]
              split <;> omega
            exact hfit ⟨by omega, by omega, by omega⟩
set_option maxHeartbeats 1000000 in
theorem pk_toh {b : Nat} (hb : b < 18446744073709551616) (hf : rg b < INF) : pk 11 15 24 32768 (sg b == 1) (dg b) (ex b) = toh b := by
  obtain ⟨hs2, hsg⟩ := sg_two hb
  have hw := word_of b
  have hI : INF = 9218868437227405312 := rfl
  unfold pk
  rw [hsg]
  by_cases h0 : dg b = 0
  · rw [if_pos h0]
    have hr := dg_zero h0
    have hx : hlf (sg b * 32768) = b := by
      unfold hlf
      rw [show sg b * 32768 % 32768 = 0 from by omega, show sg b * 32768 / 32768 = sg b from by omega]
      simp only [if_true]
      rw [if_neg (by decide), if_neg (by decide), if_pos (by decide)]
      omega
    have := hlf_back (h := sg b * 32768) (by omega) (by omega)
    rw [hx] at this
    exact this.symm
  · rw [if_neg h0]
    have hD : dg b < 2 ^ 256 := Nat.lt_of_lt_of_le (dg_lt b) (by decide)
    obtain ⟨d, m, t, hd, e, et, hlg, hdiv⟩ := odd_of h0 hD
    rw [← et, hdiv]
    have hd0 : d ≠ 0 := by omega
    by_cases hfit : d.log2 + 1 ≤ 11 ∧ ex b + t + (d.log2 : Nat) ≤ (15 : Nat) ∧ -((24 : Nat) : Int) ≤ ex b + t
    · rw [if_pos hfit]
      obtain ⟨f1, f2, f3⟩ := hfit
      have hwf := word_fit hf e h0 hlg (by omega)
      have key : ∀ v : Nat, v < 31744 → (if v < 1024 then (if v = 0 then 0 else nr v (-24)) else v * 4398046511104 + 4539628424389459968) = rg b → (sg b * 32768 + v, true) = toh b := fun v v1 hv => by
        have hx : hlf (sg b * 32768 + v) = b := by
          unfold hlf
          rw [show (sg b * 32768 + v) % 32768 = v from by omega, show (sg b * 32768 + v) / 32768 = sg b from by omega, if_neg (by omega), if_neg (by omega), hv]
          exact hw.symm
        have := hlf_back (h := sg b * 32768 + v) (by omega) (by omega)
        rw [hx] at this
        exact this.symm
      by_cases hsub : ex b + t + (d.log2 : Nat) < 1 - ((15 : Nat) : Int)
      · rw [if_pos hsub]
        obtain ⟨k, hk⟩ : ∃ k : Nat, ex b + t + ((24 : Nat) : Int) = k := ⟨(ex b + t + ((24 : Nat) : Int)).toNat, by omega⟩
        rw [show (ex b + (t : Int) + ((24 : Nat) : Int)).toNat = k from by omega]
        have hlk := lg_mul d k hd0
        have hv0 : d * 2 ^ k ≠ 0 := by
          have := Nat.mul_pos (show 0 < d by omega) (Nat.two_pow_pos k)
          omega
        have hv1 : d * 2 ^ k < 1024 := by
          have := lt_lg (k := 10) (n := d * 2 ^ k) (by omega) hv0
          rw [show (2 : Nat) ^ 10 = 1024 from by decide] at this
          exact this
        refine key _ (by omega) ?_
        rw [if_pos hv1, if_neg hv0, ← hwf]
        have := nr_scale (d := d) (p := ex b + t) k hd0 (by omega)
        rw [← this]
        congr 1
        omega
      · rw [if_neg hsub]
        have hM := top_bounds (n := 10) hd0 (by omega)
        rw [show (2 : Nat) ^ 10 = 1024 from by decide, show (2 : Nat) ^ (10 + 1) = 2048 from by decide] at hM
        have hsc := nr_scale (d := d) (p := ex b + t) (10 - d.log2) hd0 (fill_le f1 rfl (by decide))
        rw [show (2 : Nat) ^ (11 - 1) = 1024 from by decide, show 11 - 1 - d.log2 = 10 - d.log2 from by omega]
        obtain ⟨j, hj⟩ : ∃ j : Nat, ex b + (t : Int) + (d.log2 : Nat) + ((15 : Nat) : Int) - 1 = j := ⟨(ex b + (t : Int) + (d.log2 : Nat) + ((15 : Nat) : Int) - 1).toNat, by omega⟩
        rw [show (ex b + (t : Int) + (d.log2 : Nat) + ((15 : Nat) : Int) - 1).toNat = j from by omega]
        have hp : ex b + (t : Int) - ((10 - d.log2 : Nat) : Int) = (j : Int) - 24 := by omega
        rw [hp] at hsc
        generalize d * 2 ^ (10 - d.log2) = M at hM hsc
        refine key _ (by omega) ?_
        rw [if_neg (by omega), ← hlf_norm (by omega) (by omega), ← hwf, ← hsc]
        congr 1 <;> omega
    · rw [if_neg hfit]
      unfold toh
      rw [if_neg (by omega)]
      rw [if_neg]
      intro hx
      have hts := cuth_lt hb
      generalize cuth b = s at hx hts
      have hb2 : rg b = rg (hlf s) := by rw [hx]
      unfold hlf at hb2
      have fin : ∀ (M : Nat) (P : Int), M ≠ 0 → M.log2 ≤ 10 → -24 ≤ P → P + (M.log2 : Nat) ≤ 15 → rg b = rg (s / 32768 * 9223372036854775808 + nr M P) → False := fun M P p1 p2 p3 p4 hbb => by
        have hn := (nr_spec (d := M) (p := P) p1 (by omega) (by omega) (by omega)).1
        rw [(word_parts (by omega)).1] at hbb
        obtain ⟨q1, q2, q3⟩ := nr_fit (P := P) p1 (by omega) (by omega) (by omega) hbb hd e
        exact hfit ⟨by omega, by omega, by omega⟩
      by_cases c1 : 31744 < s % 32768
      · rw [if_pos c1] at hb2
        have := nan_rg
        omega
      · rw [if_neg c1] at hb2
        by_cases c2 : s % 32768 = 31744
        · rw [if_pos c2, (word_parts (by decide)).1] at hb2
          omega
        · rw [if_neg c2] at hb2
          by_cases c4 : s % 32768 < 1024
          · rw [if_pos c4] at hb2
            by_cases c3 : s % 32768 = 0
            · rw [if_pos c3, (word_parts (by decide)).1] at hb2
              obtain ⟨_, _, s3⟩ := dg_small (b := b) (by omega)
              omega
            · rw [if_neg c3] at hb2
              have hl := lg_lt (k := 10) (n := s % 32768) (by rw [show (2 : Nat) ^ 10 = 1024 from by decide]; exact c4) c3
              exact fin _ _ c3 (by omega) (by omega) (by omega) hb2
          · rw [if_neg c4, ← hlf_norm (by omega) (by omega)] at hb2
            have hl : (1024 + s % 32768 % 1024).log2 = 10 := lg_unique (by rw [show (2 : Nat) ^ 10 = 1024 from by decide]; omega) (by rw [show (2 : Nat) ^ (10 + 1) = 2048 from by decide]; omega)
            exact fin _ _ (by omega) (by omega) (by omega) (by rw [hl]; omega) hb2
end Go.Proofs.YtfaaagmjmljhiaaGreatDoor
end
section
namespace Go.Proofs.YtfaaagmjmljhiaaGreatDoor
open Go.RowKit Go.Shelf Ieee

theorem same_under {f : FuncId} {l : Array Value} {w : World} {r : Ending} (h : Calls Tryz.prog f l w fun e w' => e = r ∧ w' = w) : Calls Tryz.prog f l w fun e w' => e = r ∧ Below w.heap.size w w' :=
  h.mono (fun _ _ ⟨a, b⟩ => ⟨a, by rw [b]; exact Below.refl _ _⟩)
theorem blen_log {d : Nat} (h : d ≠ 0) : blen d = d.log2 + 1 :=
  blen_unique (by omega) (by rw [Nat.add_sub_cancel]; exact Nat.log2_self_le h) Nat.lt_log2_self
theorem or_add {a A s r : Nat} (hA : 2 ^ a = A) (hr : r < A) (h : s * A + r < 18446744073709551616) : bits .or .u64 ((s * A : Nat) : Int) (r : Int) = ((s * A + r : Nat) : Int) := by
  rw [u64_or_nat _ _ (by omega) (by omega)]
  have := Nat.two_pow_add_eq_or_of_lt (i := a) (b := r) (by omega) s
  rw [hA, Nat.mul_comm] at this
  rw [this]
theorem and_low {a A m r : Nat} (hA : 2 ^ a = A) (hm : m = A - 1) (hA1 : A ≤ 18446744073709551616) (h : r < 18446744073709551616) : bits .and .u64 (r : Int) (m : Int) = ((r % A : Nat) : Int) := by
  have h0 := Nat.two_pow_pos a
  rw [u64_and_nat r m h (by omega), hm, ← hA, Nat.and_two_pow_sub_one_eq_mod]
theorem wrap_nat {M : Nat} (h : M < 18446744073709551616) : IntKind.u64.wrap (M : Int) = (M : Int) := by rw [IntKind.wrap_u64]; omega
theorem lb0_small {d : Nat} (h : d < 18446744073709551616) : lb 0 d = (d : Int) := by rw [lb0]; omega
theorem cast_mul_pow (d k : Nat) : (d : Int) * 2 ^ k = ((d * 2 ^ k : Nat) : Int) := by rw [Int.natCast_mul, Int.natCast_pow]; rfl
theorem sgn_cast (g : Bool) (A : Nat) : (if g = true then (A : Int) else 0) = ((g.toNat * A : Nat) : Int) := by cases g <;> simp
theorem toNat_lt (g : Bool) : g.toNat < 2 := by cases g <;> decide
theorem le_pow_mul (d k : Nat) : d ≤ d * 2 ^ k := Nat.le_mul_of_pos_right _ (Nat.two_pow_pos k)
/-- The arithmetic of a normal word. -/
theorem norm24 (g : Bool) {d f : Nat} (h0 : d ≠ 0) (hl : d.log2 + 1 ≤ 24) (hf1 : 1 ≤ f) (hf2 : f ≤ 254) :
    bits .or .u64 (bits .or .u64 (if g = true then 2147483648 else 0) ((f : Int) * 8388608)) (bits .and .u64 (IntKind.u64.wrap (lb 0 d * 2 ^ (24 - (d.log2 + 1)))) 8388607) = ((g.toNat * 2147483648 + ((f - 1) * 8388608 + d * 2 ^ (23 - d.log2)) : Nat) : Int) := by
  have hM := top_bounds (n := 23) h0 (by omega)
  rw [show (2 : Nat) ^ 23 = 8388608 from by decide, show (2 : Nat) ^ (23 + 1) = 16777216 from by decide] at hM
  have hd := le_pow_mul d (23 - d.log2)
  rw [lb0_small (by omega), show 24 - (d.log2 + 1) = 23 - d.log2 from by omega, cast_mul_pow, show 23 - d.log2 = 23 - d.log2 from rfl]
  generalize d * 2 ^ (23 - d.log2) = M at hM hd
  have hg := toNat_lt g
  have hsg := sgn_cast g 2147483648
  have hm := and_low (a := 23) (A := 8388608) (m := 8388607) (r := M) (by decide) (by decide) (by decide) (by omega)
  have h1 := or_add (a := 31) (A := 2147483648) (s := g.toNat) (r := f * 8388608) (by decide) (by omega) (by omega)
  have h2 := or_add (a := 23) (A := 8388608) (s := g.toNat * 256 + f) (r := M % 8388608) (by decide) (by omega) (by omega)
  rw [show ((8388607 : Nat) : Int) = 8388607 from rfl] at hm
  rw [show ((2147483648 : Nat) : Int) = 2147483648 from rfl] at hsg
  rw [wrap_nat (by omega), hm, hsg, show (f : Int) * 8388608 = ((f * 8388608 : Nat) : Int) from by omega, h1, show g.toNat * 2147483648 + f * 8388608 = (g.toNat * 256 + f) * 8388608 from by omega, h2]
  exact congrArg (fun n : Nat => (n : Int)) (by omega)
theorem sub24 (g : Bool) {d k : Nat} (h : d * 2 ^ k < 8388608) :
    bits .or .u64 (if g = true then 2147483648 else 0) (IntKind.u64.wrap (lb 0 d * 2 ^ k)) = ((g.toNat * 2147483648 + d * 2 ^ k : Nat) : Int) := by
  have hd := le_pow_mul d k
  rw [lb0_small (by omega), cast_mul_pow]
  generalize d * 2 ^ k = M at h hd
  have hg := toNat_lt g
  have hsg := sgn_cast g 2147483648
  have h1 := or_add (a := 31) (A := 2147483648) (s := g.toNat) (r := M) (by decide) (by omega) (by omega)
  rw [show ((2147483648 : Nat) : Int) = 2147483648 from rfl] at hsg
  rw [wrap_nat (by omega), hsg, h1]
set_option maxHeartbeats 1000000 in
theorem rpack24 (g : Bool) {x : Nat} (E : Int) (hx : x < 2 ^ 256) (hE0 : -1500 ≤ E) (hE1 : E ≤ 1500) {s : Value} {w : World} (hs : DR w s x) :
    Calls Tryz.prog 138 #[.bool g, s, .int .i64 E, .int .i64 24, .int .i64 8] w fun e w' => e = .returned (.tuple #[.int .u64 ((pk 24 127 149 2147483648 g x E).1 : Nat), .bool (pk 24 127 149 2147483648 g x E).2]) ∧ Below w.heap.size w w' := by
  have lx : (digs x).length ≤ 1000 := Nat.le_trans (digs_len.2 (show x < 2 ^ (32 * 8) from hx)) (by decide)
  by_cases h0 : x = 0
  · have hp : pk 24 127 149 2147483648 g x E = (g.toNat * 2147483648, true) := by unfold pk; rw [if_pos h0]
    rw [hp]
    subst h0
    have := pack24_zero g s 0 E w hs (fun s2 W2 h2 => by have := same_under (rlen h2 (by rw [digs_zero]; exact Nat.zero_le _)); exact this)
    cases g <;> exact this
  · obtain ⟨d, m, t, hd, e, et, hlg, hdiv⟩ := odd_of h0 hx
    have hd0 : d ≠ 0 := by omega
    have hdx : d ≤ x := by rw [e]; exact le_pow_mul d t
    have hlx : x.log2 < 256 := lg_lt hx h0
    have ld : (digs d).length ≤ 1000 := Nat.le_trans (digs_len.2 (show d < 2 ^ (32 * 8) from Nat.lt_of_le_of_lt hdx hx)) (by decide)
    have hB := blen_log hd0
    have hBx := blen_log h0
    have c1 : ∀ s' W, DR W s' x → Calls Tryz.prog 64 #[s'] W fun e w' => e = .returned (.int .i64 (blen x : Int)) ∧ Below W.heap.size W w' := fun s' W h => same_under (rlen h lx)
    have c2 : ∀ s' W, DR W s' x → Calls Tryz.prog 162 #[s'] W fun e w' => e = .returned (.int .i64 (t : Int)) ∧ Below W.heap.size W w' := fun s' W h => same_under (rtrail h lx (k := t) (m := m) (by rw [e, hd, Nat.mul_comm]) (by omega))
    have c3 : ∀ s' W, DR W s' x → Calls Tryz.prog 163 #[s', .int .i64 (-(t : Int))] W fun e w' => ∃ s2, e = .returned s2 ∧ DR w' s2 d ∧ Below W.heap.size W w' := fun s' W h => by
      by_cases t0 : t = 0
      · subst t0
        have := rshift h lx 0 (by decide) (by decide)
        unfold shv at this
        rw [if_pos (by decide)] at this
        have e2 : x * 2 ^ (0 : Int).toNat = d := by rw [e]; simp
        rw [e2] at this
        exact this
      · have := rshift h lx (-(t : Int)) (by omega) (by omega)
        unfold shv at this
        rw [if_neg (by omega), show (-(-(t : Int))).toNat = t from by omega, hdiv] at this
        exact this
    have c4 : ∀ s' W, DR W s' d → Calls Tryz.prog 64 #[s'] W fun e w' => e = .returned (.int .i64 (blen d : Int)) ∧ Below W.heap.size W w' := fun s' W h => same_under (rlen h ld)
    have c5 : ∀ s' W, DR W s' d → Calls Tryz.prog 63 #[s'] W fun e w' => e = .returned (.tuple #[N4 d, .bool true]) ∧ Below W.heap.size W w' := fun s' W h => by
      have := rnat h
      rw [if_pos (Nat.lt_of_le_of_lt hdx hx)] at this
      exact this
    have hz : ((blen x : Int) == 0) = false := by rw [beq_eq_false_iff_ne]; omega
    unfold pk
    rw [if_neg h0, ← et, hdiv]
    by_cases f1 : d.log2 + 1 ≤ 24
    · by_cases f2 : E + t + (d.log2 : Nat) ≤ (127 : Nat)
      · by_cases f3 : -((149 : Nat) : Int) ≤ E + t
        · rw [if_pos ⟨f1, f2, f3⟩]
          by_cases f4 : E + t + (d.log2 : Nat) < 1 - ((127 : Nat) : Int)
          · rw [if_pos f4]
            refine pack24_sub g s x d t (blen d) (blen x) E _ w hs (by omega) (by omega) (by omega) hz (by omega) (by omega) (by omega) (by omega) c1 c2 c3 c4 c5 ?_
            obtain ⟨k, hk⟩ : ∃ k : Nat, E + t + ((149 : Nat) : Int) = k := ⟨(E + t + ((149 : Nat) : Int)).toNat, by omega⟩
            rw [show (E + (t : Int) + ((149 : Nat) : Int)).toNat = k from by omega, show (E + (t : Int) + 149).toNat = k from by omega]
            refine sub24 g ?_
            have hlk := lg_mul d k hd0
            have hne : d * 2 ^ k ≠ 0 := by have := le_pow_mul d k; omega
            have := lt_lg (k := 23) (n := d * 2 ^ k) (by omega) hne
            rw [show (2 : Nat) ^ 23 = 8388608 from by decide] at this
            exact this
          · rw [if_neg f4]
            refine pack24_norm g s x d t (blen d) (blen x) E _ w hs (by omega) (by omega) (by omega) hz (by omega) (by omega) (by omega) (by omega) (by omega) c1 c2 c3 c4 c5 ?_
            obtain ⟨f, hf⟩ : ∃ f : Nat, E + t + (d.log2 : Nat) + 127 = f := ⟨(E + t + (d.log2 : Nat) + 127).toNat, by omega⟩
            have key := norm24 g (f := f) hd0 f1 (by omega) (by omega)
            rw [hB, show E + (t : Int) + ((d.log2 + 1 : Nat) : Int) - 1 + 127 = (f : Int) from by omega, key]
            rw [show (E + (t : Int) + ((d.log2 : Nat) : Int) + ((127 : Nat) : Int) - 1).toNat = f - 1 from by omega, show (2 : Nat) ^ (24 - 1) = 8388608 from by decide]
        · rw [if_neg (fun h => f3 h.2.2)]
          exact pack24_low g s x d t (blen d) (blen x) E w hs (by omega) (by omega) (by omega) hz (by omega) (by omega) (by omega) (by omega) c1 c2 c3 c4
      · rw [if_neg (fun h => f2 h.2.1)]
        exact pack24_top g s x d t (blen d) (blen x) E w hs (by omega) (by omega) (by omega) hz (by omega) (by omega) (by omega) c1 c2 c3 c4
    · rw [if_neg (fun h => f1 h.1)]
      exact pack24_long g s x d t (blen d) (blen x) E w hs (by omega) (by omega) (by omega) hz (by omega) (by omega) c1 c2 c3 c4
/-- The arithmetic of a normal word. -/
theorem norm11 (g : Bool) {d f : Nat} (h0 : d ≠ 0) (hl : d.log2 + 1 ≤ 11) (hf1 : 1 ≤ f) (hf2 : f ≤ 30) :
    bits .or .u64 (bits .or .u64 (if g = true then 32768 else 0) ((f : Int) * 1024)) (bits .and .u64 (IntKind.u64.wrap (lb 0 d * 2 ^ (11 - (d.log2 + 1)))) 1023) = ((g.toNat * 32768 + ((f - 1) * 1024 + d * 2 ^ (10 - d.log2)) : Nat) : Int) := by
  have hM := top_bounds (n := 10) h0 (by omega)
  rw [show (2 : Nat) ^ 10 = 1024 from by decide, show (2 : Nat) ^ (10 + 1) = 2048 from by decide] at hM
  have hd := le_pow_mul d (10 - d.log2)
  rw [lb0_small (by omega), show 11 - (d.log2 + 1) = 10 - d.log2 from by omega, cast_mul_pow, show 10 - d.log2 = 10 - d.log2 from rfl]
  generalize d * 2 ^ (10 - d.log2) = M at hM hd
  have hg := toNat_lt g
  have hsg := sgn_cast g 32768
  have hm := and_low (a := 10) (A := 1024) (m := 1023) (r := M) (by decide) (by decide) (by decide) (by omega)
  have h1 := or_add (a := 15) (A := 32768) (s := g.toNat) (r := f * 1024) (by decide) (by omega) (by omega)
  have h2 := or_add (a := 10) (A := 1024) (s := g.toNat * 32 + f) (r := M % 1024) (by decide) (by omega) (by omega)
  rw [show ((1023 : Nat) : Int) = 1023 from rfl] at hm
  rw [show ((32768 : Nat) : Int) = 32768 from rfl] at hsg
  rw [wrap_nat (by omega), hm, hsg, show (f : Int) * 1024 = ((f * 1024 : Nat) : Int) from by omega, h1, show g.toNat * 32768 + f * 1024 = (g.toNat * 32 + f) * 1024 from by omega, h2]
  exact congrArg (fun n : Nat => (n : Int)) (by omega)
theorem sub11 (g : Bool) {d k : Nat} (h : d * 2 ^ k < 1024) :
    bits .or .u64 (if g = true then 32768 else 0) (IntKind.u64.wrap (lb 0 d * 2 ^ k)) = ((g.toNat * 32768 + d * 2 ^ k : Nat) : Int) := by
  have hd := le_pow_mul d k
  rw [lb0_small (by omega), cast_mul_pow]
  generalize d * 2 ^ k = M at h hd
  have hg := toNat_lt g
  have hsg := sgn_cast g 32768
  have h1 := or_add (a := 15) (A := 32768) (s := g.toNat) (r := M) (by decide) (by omega) (by omega)
  rw [show ((32768 : Nat) : Int) = 32768 from rfl] at hsg
  rw [wrap_nat (by omega), hsg, h1]
set_option maxHeartbeats 1000000 in
theorem rpack11 (g : Bool) {x : Nat} (E : Int) (hx : x < 2 ^ 256) (hE0 : -1500 ≤ E) (hE1 : E ≤ 1500) {s : Value} {w : World} (hs : DR w s x) :
    Calls Tryz.prog 138 #[.bool g, s, .int .i64 E, .int .i64 11, .int .i64 5] w fun e w' => e = .returned (.tuple #[.int .u64 ((pk 11 15 24 32768 g x E).1 : Nat), .bool (pk 11 15 24 32768 g x E).2]) ∧ Below w.heap.size w w' := by
  have lx : (digs x).length ≤ 1000 := Nat.le_trans (digs_len.2 (show x < 2 ^ (32 * 8) from hx)) (by decide)
  by_cases h0 : x = 0
  · have hp : pk 11 15 24 32768 g x E = (g.toNat * 32768, true) := by unfold pk; rw [if_pos h0]
    rw [hp]
    subst h0
    have := pack11_zero g s 0 E w hs (fun s2 W2 h2 => by have := same_under (rlen h2 (by rw [digs_zero]; exact Nat.zero_le _)); exact this)
    cases g <;> exact this
  · obtain ⟨d, m, t, hd, e, et, hlg, hdiv⟩ := odd_of h0 hx
    have hd0 : d ≠ 0 := by omega
    have hdx : d ≤ x := by rw [e]; exact le_pow_mul d t
    have hlx : x.log2 < 256 := lg_lt hx h0
    have ld : (digs d).length ≤ 1000 := Nat.le_trans (digs_len.2 (show d < 2 ^ (32 * 8) from Nat.lt_of_le_of_lt hdx hx)) (by decide)
    have hB := blen_log hd0
    have hBx := blen_log h0
    have c1 : ∀ s' W, DR W s' x → Calls Tryz.prog 64 #[s'] W fun e w' => e = .returned (.int .i64 (blen x : Int)) ∧ Below W.heap.size W w' := fun s' W h => same_under (rlen h lx)
    have c2 : ∀ s' W, DR W s' x → Calls Tryz.prog 162 #[s'] W fun e w' => e = .returned (.int .i64 (t : Int)) ∧ Below W.heap.size W w' := fun s' W h => same_under (rtrail h lx (k := t) (m := m) (by rw [e, hd, Nat.mul_comm]) (by omega))
    have c3 : ∀ s' W, DR W s' x → Calls Tryz.prog 163 #[s', .int .i64 (-(t : Int))] W fun e w' => ∃ s2, e = .returned s2 ∧ DR w' s2 d ∧ Below W.heap.size W w' := fun s' W h => by
      by_cases t0 : t = 0
      · subst t0
        have := rshift h lx 0 (by decide) (by decide)
        unfold shv at this
        rw [if_pos (by decide)] at this
        have e2 : x * 2 ^ (0 : Int).toNat = d := by rw [e]; simp
        rw [e2] at this
        exact this
      · have := rshift h lx (-(t : Int)) (by omega) (by omega)
        unfold shv at this
        rw [if_neg (by omega), show (-(-(t : Int))).toNat = t from by omega, hdiv] at this
        exact this
    have c4 : ∀ s' W, DR W s' d → Calls Tryz.prog 64 #[s'] W fun e w' => e = .returned (.int .i64 (blen d : Int)) ∧ Below W.heap.size W w' := fun s' W h => same_under (rlen h ld)
    have c5 : ∀ s' W, DR W s' d → Calls Tryz.prog 63 #[s'] W fun e w' => e = .returned (.tuple #[N4 d, .bool true]) ∧ Below W.heap.size W w' := fun s' W h => by
      have := rnat h
      rw [if_pos (Nat.lt_of_le_of_lt hdx hx)] at this
      exact this
    have hz : ((blen x : Int) == 0) = false := by rw [beq_eq_false_iff_ne]; omega
    unfold pk
    rw [if_neg h0, ← et, hdiv]
    by_cases f1 : d.log2 + 1 ≤ 11
    · by_cases f2 : E + t + (d.log2 : Nat) ≤ (15 : Nat)
      · by_cases f3 : -((24 : Nat) : Int) ≤ E + t
        · rw [if_pos ⟨f1, f2, f3⟩]
          by_cases f4 : E + t + (d.log2 : Nat) < 1 - ((15 : Nat) : Int)
          · rw [if_pos f4]
            refine pack11_sub g s x d t (blen d) (blen x) E _ w hs (by omega) (by omega) (by omega) hz (by omega) (by omega) (by omega) (by omega) c1 c2 c3 c4 c5 ?_
            obtain ⟨k, hk⟩ : ∃ k : Nat, E + t + ((24 : Nat) : Int) = k := ⟨(E + t + ((24 : Nat) : Int)).toNat, by omega⟩
            rw [show (E + (t : Int) + ((24 : Nat) : Int)).toNat = k from by omega, show (E + (t : Int) + 24).toNat = k from by omega]
            refine sub11 g ?_
            have hlk := lg_mul d k hd0
            have hne : d * 2 ^ k ≠ 0 := by have := le_pow_mul d k; omega
            have := lt_lg (k := 10) (n := d * 2 ^ k) (by omega) hne
            rw [show (2 : Nat) ^ 10 = 1024 from by decide] at this
            exact this
          · rw [if_neg f4]
            refine pack11_norm g s x d t (blen d) (blen x) E _ w hs (by omega) (by omega) (by omega) hz (by omega) (by omega) (by omega) (by omega) (by omega) c1 c2 c3 c4 c5 ?_
            obtain ⟨f, hf⟩ : ∃ f : Nat, E + t + (d.log2 : Nat) + 15 = f := ⟨(E + t + (d.log2 : Nat) + 15).toNat, by omega⟩
            have key := norm11 g (f := f) hd0 f1 (by omega) (by omega)
            rw [hB, show E + (t : Int) + ((d.log2 + 1 : Nat) : Int) - 1 + 15 = (f : Int) from by omega, key]
            rw [show (E + (t : Int) + ((d.log2 : Nat) : Int) + ((15 : Nat) : Int) - 1).toNat = f - 1 from by omega, show (2 : Nat) ^ (11 - 1) = 1024 from by decide]
        · rw [if_neg (fun h => f3 h.2.2)]
          exact pack11_low g s x d t (blen d) (blen x) E w hs (by omega) (by omega) (by omega) hz (by omega) (by omega) (by omega) (by omega) c1 c2 c3 c4
      · rw [if_neg (fun h => f2 h.2.1)]
        exact pack11_top g s x d t (blen d) (blen x) E w hs (by omega) (by omega) (by omega) hz (by omega) (by omega) (by omega) c1 c2 c3 c4
    · rw [if_neg (fun h => f1 h.1)]
      exact pack11_long g s x d t (blen d) (blen x) E w hs (by omega) (by omega) (by omega) hz (by omega) (by omega) c1 c2 c3 c4
theorem rthin24 (b : Nat) (hb : b < 18446744073709551616) (w : World) :
    Calls Tryz.prog 104 #[.int .u64 (b : Int), .int .i64 24, .int .i64 8] w fun e w' => e = .returned (.tuple #[.int .u64 (((tos b).1 : Nat) : Int), .bool (tos b).2]) ∧ Below w.heap.size w w' := by
  have hI : INF = 9218868437227405312 := rfl
  obtain ⟨hs2, hsg⟩ := sg_two hb
  have hw := word_of b
  have h3 : bits .and .u64 (b : Int) 4503599627370495 = ((b % 4503599627370496 : Nat) : Int) := and_low (a := 52) (A := 4503599627370496) (m := 4503599627370495) (r := b) (by decide) (by decide) (by decide) hb
  have hrg : rg b < 9223372036854775808 := by unfold rg; omega
  have hfr : b % 4503599627370496 = rg b % 4503599627370496 := by unfold rg; omega
  by_cases hf : rg b < INF
  · refine thin24_fin (sg b == 1) (b : Int) (dg b) (ex b) _ _ w (fun W => rparts_fin b hb hf W) (fun s' W h => ?_)
    have hex : -1500 ≤ ex b ∧ ex b ≤ 1500 := by
      unfold ex
      split <;> omega
    have := rpack24 (sg b == 1) (ex b) (Nat.lt_of_lt_of_le (dg_lt b) (by decide)) hex.1 hex.2 h
    rw [pk_tos hb hf] at this
    exact this
  · have kp := fun W => same_under (rparts_inf b hb hf W)
    by_cases hi : INF < rg b
    · rw [tos_nan hi]
      exact thin24_nan _ (b : Int) _ h3 (by rw [bne_iff_ne]; omega) w kp
    · have hi2 : rg b = INF := by omega
      have hm : (((b % 4503599627370496 : Nat) : Int) != 0) = false := by
        rw [show b % 4503599627370496 = 0 from by omega]
        rfl
      have e : tos b = (sg b * 2147483648 + 2139095040, true) := by unfold tos; rw [if_neg (by omega), if_pos (by omega)]
      have hc : sg b = 0 ∨ sg b = 1 := by omega
      rcases hc with hc | hc
      · rw [hc] at kp e
        rw [e]
        exact thin24_inf (b : Int) _ h3 hm w kp
      · rw [hc] at kp e
        rw [e]
        exact thin24_ninf (b : Int) _ h3 hm w kp
theorem rthin11 (b : Nat) (hb : b < 18446744073709551616) (w : World) :
    Calls Tryz.prog 104 #[.int .u64 (b : Int), .int .i64 11, .int .i64 5] w fun e w' => e = .returned (.tuple #[.int .u64 (((toh b).1 : Nat) : Int), .bool (toh b).2]) ∧ Below w.heap.size w w' := by
  have hI : INF = 9218868437227405312 := rfl
  obtain ⟨hs2, hsg⟩ := sg_two hb
  have hw := word_of b
  have h3 : bits .and .u64 (b : Int) 4503599627370495 = ((b % 4503599627370496 : Nat) : Int) := and_low (a := 52) (A := 4503599627370496) (m := 4503599627370495) (r := b) (by decide) (by decide) (by decide) hb
  have hrg : rg b < 9223372036854775808 := by unfold rg; omega
  have hfr : b % 4503599627370496 = rg b % 4503599627370496 := by unfold rg; omega
  by_cases hf : rg b < INF
  · refine thin11_fin (sg b == 1) (b : Int) (dg b) (ex b) _ _ w (fun W => rparts_fin b hb hf W) (fun s' W h => ?_)
    have hex : -1500 ≤ ex b ∧ ex b ≤ 1500 := by
      unfold ex
      split <;> omega
    have := rpack11 (sg b == 1) (ex b) (Nat.lt_of_lt_of_le (dg_lt b) (by decide)) hex.1 hex.2 h
    rw [pk_toh hb hf] at this
    exact this
  · have kp := fun W => same_under (rparts_inf b hb hf W)
    by_cases hi : INF < rg b
    · rw [toh_nan hi]
      exact thin11_nan _ (b : Int) _ h3 (by rw [bne_iff_ne]; omega) w kp
    · have hi2 : rg b = INF := by omega
      have hm : (((b % 4503599627370496 : Nat) : Int) != 0) = false := by
        rw [show b % 4503599627370496 = 0 from by omega]
        rfl
      have e : toh b = (sg b * 32768 + 31744, true) := by
        have hbk := hlf_back (h := sg b * 32768 + 31744) (by omega) (by omega)
        have hx : hlf (sg b * 32768 + 31744) = b := by
          unfold hlf
          rw [show (sg b * 32768 + 31744) % 32768 = 31744 from by omega, show (sg b * 32768 + 31744) / 32768 = sg b from by omega, if_neg (by decide), if_pos rfl]
          omega
        rw [hx] at hbk
        exact hbk
      have hc : sg b = 0 ∨ sg b = 1 := by omega
      rcases hc with hc | hc
      · rw [hc] at kp e
        rw [e]
        exact thin11_inf (b : Int) _ h3 hm w kp
      · rw [hc] at kp e
        rw [e]
        exact thin11_ninf (b : Int) _ h3 hm w kp
theorem tosw_lt {b : Nat} (hb : b < 18446744073709551616) : (tos b).1 < 4294967296 := by
  have h2 : sg b < 2 := by unfold sg; omega
  have := (tosr_bound hb).1
  unfold tos
  repeat' split
  all_goals simp only
  all_goals omega
theorem tohw_lt {b : Nat} (hb : b < 18446744073709551616) : (toh b).1 < 65536 := by
  have := cuth_lt hb
  unfold toh
  repeat' split
  all_goals simp only
  all_goals omega
end Go.Proofs.YtfaaagmjmljhiaaGreatDoor
end
end
