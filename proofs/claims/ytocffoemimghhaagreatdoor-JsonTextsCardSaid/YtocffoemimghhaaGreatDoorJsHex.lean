/-
  entrepotlaw7.hex: an escape of four digits, for every number of sixteen bits.
-/
import Derived.Test.YtocffoemimghhaaGreatDoorJsTxtM
import Derived.Lib.QuietBelow
import Derived.BigQuiet
namespace Go.Proofs.YtocffoemimghhaaGreatDoor
open Go.RowKit Go.Shelf
open Go.Sort (grow)
set_option linter.unusedVariables false

theorem and15 (n : Nat) (h : n < 65536) : bits .and .i64 (n : Int) 15 = ((n % 16 : Nat) : Int) := by
  have := i64_and_nat n 15 (by omega) (by decide)
  show bits .and .i64 (n : Int) ((15 : Nat) : Int) = _
  rw [this, show (15 : Nat) = 2 ^ 4 - 1 from rfl, Nat.and_two_pow_sub_one_eq_mod]
theorem hexS_at : ∀ i ∈ List.range 16, (⟨#[48, 49, 50, 51, 52, 53, 54, 55, 56, 57, 97, 98, 99, 100, 101, 102]⟩ : ByteArray).extract i (i + 1) = str [hx true i] := by decide +kernel
theorem hexG_at : ∀ i ∈ List.range 16, (⟨#[48, 49, 50, 51, 52, 53, 54, 55, 56, 57, 65, 66, 67, 68, 69, 70]⟩ : ByteArray).extract i (i + 1) = str [hx false i] := by decide +kernel
theorem str1_size (c : UInt8) : (str [c]).size = 1 := rfl
set_option maxRecDepth 100000 in
set_option maxHeartbeats 4000000 in
theorem lhex_any (n : Nat) (hn : n < 65536) (sm : Bool) (w : World) :
    Calls Tryz.prog 11 #[.int .i64 (n : Int), .bool sm] w fun e w' => e = .returned (.string (str (hesc sm n))) ∧ Below w.heap.size w w' := by
  obtain ⟨N, hN⟩ : ∃ N : Int, (n : Int) = N := ⟨_, rfl⟩
  obtain ⟨a, ha⟩ : ∃ a, n / 4096 % 16 = a := ⟨_, rfl⟩
  obtain ⟨b, hb⟩ : ∃ b, n / 256 % 16 = b := ⟨_, rfl⟩
  obtain ⟨c, hc⟩ : ∃ c, n / 16 % 16 = c := ⟨_, rfl⟩
  obtain ⟨d, hd⟩ : ∃ d, n % 16 = d := ⟨_, rfl⟩
  have n1 := and15 (n / 4096) (by omega)
  have n2 := and15 (n / 256) (by omega)
  have n3 := and15 (n / 16) (by omega)
  have n4 := and15 n hn
  rw [ha] at n1; rw [hb] at n2; rw [hc] at n3; rw [hd, hN] at n4
  obtain ⟨D1, e1⟩ : ∃ D : Int, N / 4096 = D := ⟨_, rfl⟩
  obtain ⟨D2, e2⟩ : ∃ D : Int, N / 256 = D := ⟨_, rfl⟩
  obtain ⟨D3, e3⟩ : ∃ D : Int, N / 16 = D := ⟨_, rfl⟩
  rw [show ((n / 4096 : Nat) : Int) = D1 by omega] at n1
  rw [show ((n / 256 : Nat) : Int) = D2 by omega] at n2
  rw [show ((n / 16 : Nat) : Int) = D3 by omega] at n3
  have a0 : (0 : Int) ≤ (a : Int) := by omega
  have a1 : (a : Int) < 16 := by omega
  have b0 : (0 : Int) ≤ (b : Int) := by omega
  have b1 : (b : Int) < 16 := by omega
  have c0 : (0 : Int) ≤ (c : Int) := by omega
  have c1 : (c : Int) < 16 := by omega
  have d0 : (0 : Int) ≤ (d : Int) := by omega
  have d1 : (d : Int) < 16 := by omega
  have N0 : 0 ≤ N := by omega
  have N1 : N < 65536 := by omega
  have HF : Hid (hesc sm n = [92, 117] ++ [hx sm a] ++ [hx sm b] ++ [hx sm c] ++ [hx sm d]) := by show _ = _; unfold hesc hx4; rw [ha, hb, hc, hd]; rfl
  rw [hN]
  obtain ⟨X1, x1⟩ : ∃ X, str [hx sm a] = X := ⟨_, rfl⟩
  obtain ⟨X2, x2⟩ : ∃ X, str [hx sm b] = X := ⟨_, rfl⟩
  obtain ⟨X3, x3⟩ : ∃ X, str [hx sm c] = X := ⟨_, rfl⟩
  obtain ⟨X4, x4⟩ : ∃ X, str [hx sm d] = X := ⟨_, rfl⟩
  obtain ⟨Y1, y1⟩ : ∃ Y, ⟨#[92, 117]⟩ ++ X1 = Y := ⟨_, rfl⟩
  obtain ⟨Y2, y2⟩ : ∃ Y, Y1 ++ X2 = Y := ⟨_, rfl⟩
  obtain ⟨Y3, y3⟩ : ∃ Y, Y2 ++ X3 = Y := ⟨_, rfl⟩
  have y4 : Y3 ++ X4 = str (hesc sm n) := by rw [HF.out, ← y3, ← y2, ← y1, ← x1, ← x2, ← x3, ← x4, show (⟨#[92, 117]⟩ : ByteArray) = str [92, 117] from rfl, str_app, str_app, str_app, str_app]
  have s0 : ((⟨#[92, 117]⟩ : ByteArray).size : Int) ≤ 8388608 := by decide
  have s1 : (X1.size : Int) ≤ 8388608 := by rw [← x1, str1_size]; decide
  have s2 : (X2.size : Int) ≤ 8388608 := by rw [← x2, str1_size]; decide
  have s3 : (X3.size : Int) ≤ 8388608 := by rw [← x3, str1_size]; decide
  have s4 : (X4.size : Int) ≤ 8388608 := by rw [← x4, str1_size]; decide
  have z1 : (Y1.size : Int) ≤ 8388608 := by rw [← y1, ← x1, ByteArray.size_append, str1_size]; decide
  have z2 : (Y2.size : Int) ≤ 8388608 := by rw [← y2, ← y1, ← x1, ← x2, ByteArray.size_append, ByteArray.size_append, str1_size, str1_size]; decide
  have z3 : (Y3.size : Int) ≤ 8388608 := by rw [← y3, ← y2, ← y1, ← x1, ← x2, ← x3, ByteArray.size_append, ByteArray.size_append, ByteArray.size_append, str1_size, str1_size, str1_size]; decide
  cases sm with
  | true =>
    have g1 := hexS_at a (List.mem_range.2 (by omega))
    have g2 := hexS_at b (List.mem_range.2 (by omega))
    have g3 := hexS_at c (List.mem_range.2 (by omega))
    have g4 := hexS_at d (List.mem_range.2 (by omega))
    rw [x1] at g1; rw [x2] at g2; rw [x3] at g3; rw [x4] at g4
    clear hN ha hb hc hd x1 x2 x3 x4 HF hn
    obtain ⟨Z, hZ⟩ : ∃ Z, str (hesc true n) = Z := ⟨_, rfl⟩
    rw [hZ] at y4 ⊢
    clear hZ
    go_enter Tryz.func11, Tryz.ntmps11
    go_wp2
    go_quiet (fail)
    go_wp2
    go_ret
    exact ⟨rfl, bdn (Below.refl _ _) _⟩
  | false =>
    have g1 := hexG_at a (List.mem_range.2 (by omega))
    have g2 := hexG_at b (List.mem_range.2 (by omega))
    have g3 := hexG_at c (List.mem_range.2 (by omega))
    have g4 := hexG_at d (List.mem_range.2 (by omega))
    rw [x1] at g1; rw [x2] at g2; rw [x3] at g3; rw [x4] at g4
    clear hN ha hb hc hd x1 x2 x3 x4 HF hn
    obtain ⟨Z, hZ⟩ : ∃ Z, str (hesc false n) = Z := ⟨_, rfl⟩
    rw [hZ] at y4 ⊢
    clear hZ
    go_enter Tryz.func11, Tryz.ntmps11
    go_wp2
    go_quiet (fail)
    go_wp2
    go_ret
    exact ⟨rfl, bdn (Below.refl _ _) _⟩
end Go.Proofs.YtocffoemimghhaaGreatDoor
