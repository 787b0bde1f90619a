/-
  The reference's Put: for every number; told of layer 5.
-/
import Derived.Test.YtoibaeilbolffaaUtfMid
import Derived.Lib.SlBytesConst
namespace Go.Proofs.Ytoibaeilbolffaa
open Go.RowKit

theorem i64_low {c : Nat} (h : c < 4611686018427387904) : bits .and .i64 (c : Int) 63 = ((c % 64 : Nat) : Int) := by
  have := i64_and_nat c 63 h (by decide)
  rw [nat_mask6] at this
  exact this
theorem or_byte (h x : Nat) (i : Nat) (hh : h % 2 ^ i = 0) (hx : x < 2 ^ i) (hb : h + x < 256) : bits .or .u8 (h : Int) (x : Int) = ((h + x : Nat) : Int) := by
  have := u8_or_nat h x (by omega) (by omega)
  rw [nat_join i h x hh hx] at this
  exact this
/-- Bytes in a fresh row as a text. -/
theorem bytes_str1 (z0 : Nat) (W : World) : (convert 42 9 (.slice (some ⟨W.heap.size, 0, none⟩) 1 1)).run Try.prog (W.alloc (.cells #[.int .u8 (z0 : Int)] 5)) = .ok (.string ⟨#[UInt8.ofNat z0]⟩) (W.alloc (.cells #[.int .u8 (z0 : Int)] 5)) := by
  have h := run_convert_bytes_arg (P := Try.prog) (W.alloc (.cells #[.int .u8 (z0 : Int)] 5)) 42 5 (by kernel_rfl) (by kernel_rfl) W.heap.size 0 1 1 [(z0 : Int)] rfl (fun i hi => by
    obtain rfl : i = 0 := by omega
    exact cell_of_row _ W.heap.size 0 _ _ _ (heap_alloc_new W _)) 9 (by kernel_rfl)
  rw [h]
  rfl
theorem bytes_str2 (z0 z1 : Nat) (W : World) : (convert 42 9 (.slice (some ⟨W.heap.size, 0, none⟩) 2 2)).run Try.prog (W.alloc (.cells #[.int .u8 (z0 : Int), .int .u8 (z1 : Int)] 5)) = .ok (.string ⟨#[UInt8.ofNat z0, UInt8.ofNat z1]⟩) (W.alloc (.cells #[.int .u8 (z0 : Int), .int .u8 (z1 : Int)] 5)) := by
  have h := run_convert_bytes_arg (P := Try.prog) (W.alloc (.cells #[.int .u8 (z0 : Int), .int .u8 (z1 : Int)] 5)) 42 5 (by kernel_rfl) (by kernel_rfl) W.heap.size 0 2 2 [(z0 : Int), (z1 : Int)] rfl (fun i hi => by
    match i, hi with
    | 0, _ => exact cell_of_row _ W.heap.size 0 _ _ _ (heap_alloc_new W _)
    | 1, _ => exact cell_of_row _ W.heap.size 1 _ _ _ (heap_alloc_new W _)) 9 (by kernel_rfl)
  rw [h]
  rfl
theorem bytes_str3 (z0 z1 z2 : Nat) (W : World) : (convert 42 9 (.slice (some ⟨W.heap.size, 0, none⟩) 3 3)).run Try.prog (W.alloc (.cells #[.int .u8 (z0 : Int), .int .u8 (z1 : Int), .int .u8 (z2 : Int)] 5)) = .ok (.string ⟨#[UInt8.ofNat z0, UInt8.ofNat z1, UInt8.ofNat z2]⟩) (W.alloc (.cells #[.int .u8 (z0 : Int), .int .u8 (z1 : Int), .int .u8 (z2 : Int)] 5)) := by
  have h := run_convert_bytes_arg (P := Try.prog) (W.alloc (.cells #[.int .u8 (z0 : Int), .int .u8 (z1 : Int), .int .u8 (z2 : Int)] 5)) 42 5 (by kernel_rfl) (by kernel_rfl) W.heap.size 0 3 3 [(z0 : Int), (z1 : Int), (z2 : Int)] rfl (fun i hi => by
    match i, hi with
    | 0, _ => exact cell_of_row _ W.heap.size 0 _ _ _ (heap_alloc_new W _)
    | 1, _ => exact cell_of_row _ W.heap.size 1 _ _ _ (heap_alloc_new W _)
    | 2, _ => exact cell_of_row _ W.heap.size 2 _ _ _ (heap_alloc_new W _)) 9 (by kernel_rfl)
  rw [h]
  rfl
theorem bytes_str4 (z0 z1 z2 z3 : Nat) (W : World) : (convert 42 9 (.slice (some ⟨W.heap.size, 0, none⟩) 4 4)).run Try.prog (W.alloc (.cells #[.int .u8 (z0 : Int), .int .u8 (z1 : Int), .int .u8 (z2 : Int), .int .u8 (z3 : Int)] 5)) = .ok (.string ⟨#[UInt8.ofNat z0, UInt8.ofNat z1, UInt8.ofNat z2, UInt8.ofNat z3]⟩) (W.alloc (.cells #[.int .u8 (z0 : Int), .int .u8 (z1 : Int), .int .u8 (z2 : Int), .int .u8 (z3 : Int)] 5)) := by
  have h := run_convert_bytes_arg (P := Try.prog) (W.alloc (.cells #[.int .u8 (z0 : Int), .int .u8 (z1 : Int), .int .u8 (z2 : Int), .int .u8 (z3 : Int)] 5)) 42 5 (by kernel_rfl) (by kernel_rfl) W.heap.size 0 4 4 [(z0 : Int), (z1 : Int), (z2 : Int), (z3 : Int)] rfl (fun i hi => by
    match i, hi with
    | 0, _ => exact cell_of_row _ W.heap.size 0 _ _ _ (heap_alloc_new W _)
    | 1, _ => exact cell_of_row _ W.heap.size 1 _ _ _ (heap_alloc_new W _)
    | 2, _ => exact cell_of_row _ W.heap.size 2 _ _ _ (heap_alloc_new W _)
    | 3, _ => exact cell_of_row _ W.heap.size 3 _ _ _ (heap_alloc_new W _)) 9 (by kernel_rfl)
  rw [h]
  rfl
theorem rput_none (c : Int) (h : zlng c = 0) (w : World) :
    Calls Try.prog 16 #[.int .i64 c] w fun e w' => e = .returned (.string ⟨#[]⟩) ∧ w' = w := by
  have C := fun W => point_any c W
  rw [decide_eq_false (by omega)] at C
  have HC := Lib.hid C; clear C h
  go_enter Try.func16, Try.ntmps16
  go_wp2_with (go_at_call 22; ((with_reducible refine (HC.out _).mono ?_); rintro e w' ⟨rfl, rfl⟩))
  go_ret
  exact ⟨rfl, rfl⟩
set_option maxRecDepth 4000000 in
theorem rput_1 (c : Nat) (h : c < 128) (w : World) (C : ∀ W, Calls Try.prog 22 #[.int .i64 (c : Int)] W fun e w' => e = .returned (.bool true) ∧ w' = W) :
    Calls Try.prog 16 #[.int .i64 (c : Int)] w fun e w' => e = .returned (.string ⟨#[UInt8.ofNat c]⟩) ∧ Below w.heap.size w w' := by
  have HC := Lib.hid C; clear C
  have e0 : IntKind.u8.wrap (c : Int) = c := by rw [IntKind.wrap_u8']; omega
  have hcv := bytes_str1 c
  go_enter Try.func16, Try.ntmps16
  go_wp2_with (go_at_call 22; ((with_reducible refine (HC.out _).mono ?_); rintro e w' ⟨rfl, rfl⟩))
  go_ret
  exact ⟨rfl, (Below.refl _ _).alloc (Nat.le_refl _) _⟩
set_option maxRecDepth 4000000 in
theorem rput_2 (c a b z0 z1 : Nat) (h0 : 128 ≤ c) (h : c < 2048) (ha : (c : Int) / 64 = (a : Int)) (_ha2 : a < 256) (hb : bits .and .i64 (c : Int) 63 = (b : Int)) (hb2 : b < 256) (hz0 : bits .or .u8 192 (a : Int) = (z0 : Int)) (hz1 : bits .or .u8 128 (b : Int) = (z1 : Int)) (w : World)
    (C : ∀ W, Calls Try.prog 22 #[.int .i64 (c : Int)] W fun e w' => e = .returned (.bool true) ∧ w' = W) :
    Calls Try.prog 16 #[.int .i64 (c : Int)] w fun e w' => e = .returned (.string ⟨#[UInt8.ofNat z0, UInt8.ofNat z1]⟩) ∧ Below w.heap.size w w' := by
  have HC := Lib.hid C; clear C
  have e0 : IntKind.u8.wrap (a : Int) = a := by rw [IntKind.wrap_u8']; omega
  have e1 : IntKind.u8.wrap (b : Int) = b := by rw [IntKind.wrap_u8']; omega
  have hcv := bytes_str2 z0 z1
  go_enter Try.func16, Try.ntmps16
  go_wp2_with (go_at_call 22; ((with_reducible refine (HC.out _).mono ?_); rintro e w' ⟨rfl, rfl⟩))
  go_ret
  exact ⟨rfl, (Below.refl _ _).alloc (Nat.le_refl _) _⟩
set_option maxHeartbeats 400000 in
set_option maxRecDepth 4000000 in
theorem rput_3 (c a d b g z0 z1 z2 : Nat) (h0 : 2048 ≤ c) (h : c < 65536) (ha : (c : Int) / 4096 = (a : Int)) (_ha2 : a < 256) (hd : (c : Int) / 64 = (d : Int)) (hg : bits .and .i64 (d : Int) 63 = (g : Int)) (hg2 : g < 256) (hb : bits .and .i64 (c : Int) 63 = (b : Int)) (hb2 : b < 256) (hz0 : bits .or .u8 224 (a : Int) = (z0 : Int)) (hz1 : bits .or .u8 128 (g : Int) = (z1 : Int)) (hz2 : bits .or .u8 128 (b : Int) = (z2 : Int)) (w : World)
    (C : ∀ W, Calls Try.prog 22 #[.int .i64 (c : Int)] W fun e w' => e = .returned (.bool true) ∧ w' = W) :
    Calls Try.prog 16 #[.int .i64 (c : Int)] w fun e w' => e = .returned (.string ⟨#[UInt8.ofNat z0, UInt8.ofNat z1, UInt8.ofNat z2]⟩) ∧ Below w.heap.size w w' := by
  have HC := Lib.hid C; clear C
  have e0 : IntKind.u8.wrap (a : Int) = a := by rw [IntKind.wrap_u8']; omega
  have e1 : IntKind.u8.wrap (b : Int) = b := by rw [IntKind.wrap_u8']; omega
  have e2 : IntKind.u8.wrap (g : Int) = g := by rw [IntKind.wrap_u8']; omega
  have hcv := bytes_str3 z0 z1 z2
  go_enter Try.func16, Try.ntmps16
  go_wp2_with (go_at_call 22; ((with_reducible refine (HC.out _).mono ?_); rintro e w' ⟨rfl, rfl⟩))
  go_ret
  exact ⟨rfl, (Below.refl _ _).alloc (Nat.le_refl _) _⟩
set_option maxHeartbeats 400000 in
set_option maxRecDepth 4000000 in
theorem rput_4 (c a d b g f i z0 z1 z2 z3 : Nat) (h0 : 65536 ≤ c) (h : c < 1114112) (ha : (c : Int) / 262144 = (a : Int)) (_ha2 : a < 256) (hf : (c : Int) / 4096 = (f : Int)) (hi : bits .and .i64 (f : Int) 63 = (i : Int)) (hi2 : i < 256) (hd : (c : Int) / 64 = (d : Int)) (hg : bits .and .i64 (d : Int) 63 = (g : Int)) (hg2 : g < 256) (hb : bits .and .i64 (c : Int) 63 = (b : Int)) (hb2 : b < 256) (hz0 : bits .or .u8 240 (a : Int) = (z0 : Int)) (hz1 : bits .or .u8 128 (i : Int) = (z1 : Int)) (hz2 : bits .or .u8 128 (g : Int) = (z2 : Int)) (hz3 : bits .or .u8 128 (b : Int) = (z3 : Int)) (w : World)
    (C : ∀ W, Calls Try.prog 22 #[.int .i64 (c : Int)] W fun e w' => e = .returned (.bool true) ∧ w' = W) :
    Calls Try.prog 16 #[.int .i64 (c : Int)] w fun e w' => e = .returned (.string ⟨#[UInt8.ofNat z0, UInt8.ofNat z1, UInt8.ofNat z2, UInt8.ofNat z3]⟩) ∧ Below w.heap.size w w' := by
  have HC := Lib.hid C; clear C
  have e0 : IntKind.u8.wrap (a : Int) = a := by rw [IntKind.wrap_u8']; omega
  have e1 : IntKind.u8.wrap (b : Int) = b := by rw [IntKind.wrap_u8']; omega
  have e2 : IntKind.u8.wrap (g : Int) = g := by rw [IntKind.wrap_u8']; omega
  have e3 : IntKind.u8.wrap (i : Int) = i := by rw [IntKind.wrap_u8']; omega
  have hcv := bytes_str4 z0 z1 z2 z3
  go_enter Try.func16, Try.ntmps16
  go_wp2_with (go_at_call 22; ((with_reducible refine (HC.out _).mono ?_); rintro e w' ⟨rfl, rfl⟩))
  go_ret
  exact ⟨rfl, (Below.refl _ _).alloc (Nat.le_refl _) _⟩
theorem rput_any (c : Int) (w : World) :
    Calls Try.prog 16 #[.int .i64 c] w fun e w' => e = .returned (.string (uput c)) ∧ Below w.heap.size w w' := by
  by_cases h : zlng c = 0
  · rw [uput_none h]
    exact (rput_none c h w).mono fun _ _ ⟨a, b⟩ => ⟨a, by rw [b]; exact Below.refl _ _⟩
  · have C := fun W => point_any c W
    rw [decide_eq_true h] at C
    obtain ⟨h0, h1, _⟩ := zlng_some h
    rw [uput_some h]
    obtain ⟨c, rfl⟩ := Int.eq_ofNat_of_zero_le h0
    rw [Int.toNat_natCast]
    have o := fun x (hx : x < 64) => or_byte 128 x 6 (by decide) hx (by omega)
    unfold uenc
    by_cases a1 : c < 128
    · rw [if_pos a1]; exact rput_1 c a1 w C
    by_cases a2 : c < 2048
    · rw [if_neg a1, if_pos a2]
      exact rput_2 c (c / 64) (c % 64) _ _ (by omega) a2 (by omega) (by omega) (i64_low (by omega)) (by omega) (or_byte 192 _ 5 (by decide) (by omega) (by omega)) (o _ (by omega)) w C
    by_cases a3 : c < 65536
    · rw [if_neg a1, if_neg a2, if_pos a3]
      exact rput_3 c (c / 4096) (c / 64) (c % 64) (c / 64 % 64) _ _ _ (by omega) a3 (by omega) (by omega) (by omega) (i64_low (by omega)) (by omega) (i64_low (by omega)) (by omega) (or_byte 224 _ 4 (by decide) (by omega) (by omega)) (o _ (by omega)) (o _ (by omega)) w C
    · rw [if_neg a1, if_neg a2, if_neg a3]
      exact rput_4 c (c / 262144) (c / 64) (c % 64) (c / 64 % 64) (c / 4096) (c / 4096 % 64) _ _ _ _ (by omega) (by omega) (by omega) (by omega) (by omega) (i64_low (by omega)) (by omega) (by omega) (i64_low (by omega)) (by omega) (i64_low (by omega)) (by omega) (or_byte 240 _ 3 (by decide) (by omega) (by omega)) (o _ (by omega)) (o _ (by omega)) (o _ (by omega)) w C
end Go.Proofs.Ytoibaeilbolffaa
