/-
  entrepotlaw8.CborFloats: the walk.
-/
import Derived.Test.YtpgpodjmdflmeaaGreatDoorGS
import Derived.Lib.QuietBelow
import Derived.BigQuiet
namespace Go.Proofs.YtpgpodjmdflmeaaGreatDoor
open Go.RowKit Go.Shelf
open Go.Sort (grow)
set_option linter.unusedVariables false

theorem u8s26 {n : Nat} (h : n < 4294967296) : #[Value.int .u8 250, Value.int .u8 ((n : Int) / 16777216), Value.int .u8 ((n : Int) / 65536 % 256), Value.int .u8 ((n : Int) / 256 % 256), Value.int .u8 ((n : Int) % 256)].toList = U8s (hby 7 26 n) := by
  have e : hby 7 26 n = [UInt8.ofNat 250, UInt8.ofNat (n / 16777216), UInt8.ofNat (n / 65536), UInt8.ofNat (n / 256), UInt8.ofNat n] := by
    unfold hby; rw [hsz_26, be_succ, be_succ, be_succ, be_succ, be_zero]; simp
  rw [e]
  unfold U8s
  simp only [List.map, UInt8.toNat_ofNat']
  have h1 : ((n / 16777216 % 2 ^ 8 : Nat) : Int) = (n : Int) / 16777216 := by omega
  have h2 : ((n / 65536 % 2 ^ 8 : Nat) : Int) = (n : Int) / 65536 % 256 := by omega
  have h3 : ((n / 256 % 2 ^ 8 : Nat) : Int) = (n : Int) / 256 % 256 := by omega
  have h4 : ((n % 2 ^ 8 : Nat) : Int) = (n : Int) % 256 := by omega
  rw [h1, h2, h3, h4]
  rfl
theorem u8s25 {n : Nat} (h : n < 65536) : #[Value.int .u8 249, Value.int .u8 ((n : Int) / 256), Value.int .u8 ((n : Int) % 256)].toList = U8s (hby 7 25 n) := by
  have e : hby 7 25 n = [UInt8.ofNat 249, UInt8.ofNat (n / 256), UInt8.ofNat n] := by
    unfold hby; rw [hsz_25, be_succ, be_succ, be_zero]; simp
  rw [e]
  unfold U8s
  simp only [List.map, UInt8.toNat_ofNat']
  have h1 : ((n / 256 % 2 ^ 8 : Nat) : Int) = (n : Int) / 256 := by omega
  have h4 : ((n % 2 ^ 8 : Nat) : Int) = (n : Int) % 256 := by omega
  rw [h1, h4]
  rfl

set_option maxRecDepth 100000 in
set_option maxHeartbeats 4000000 in
theorem floats_core (b : Nat) (hb : b < 18446744073709551616) (kn : Int) (gn : Bool) (e0 e1 e2 e3 bn : Int) (L sv hv : Nat) (oks okh : Bool) (hsv : sv < 4294967296) (hhv : hv < 65536)
    (hcase : (kn = 3 ∧ 0 < L) ∨ (kn = 4 ∧ okh = true ∧ L = 3) ∨ (kn = 4 ∧ okh = false ∧ oks = true ∧ L = 5) ∨ (kn = 4 ∧ okh = false ∧ oks = false ∧ L = 9)) (w : World) (hT : Tb w)
    (k1 : ∀ W gg cap, Below w.heap.size w W → BytesAt W gg 0 (hby 7 27 b) → Calls Tryz.prog 5 #[.slice (some ⟨gg, 0, none⟩) 9 cap] W fun e w' => e = .returned (.tuple #[V10 kn gn e0 e1 e2 e3 bn ⟨#[]⟩ none 0 0 none 0 0, .int .i64 0]) ∧ Below W.heap.size W w')
    (k2 : ∀ W, Calls Tryz.prog 13 #[.int .u64 b] W fun e w' => e = .returned (V10 kn gn e0 e1 e2 e3 bn ⟨#[]⟩ none 0 0 none 0 0) ∧ Below W.heap.size W w')
    (k3 : ∀ W, Calls Tryz.prog 12 #[V10 kn gn e0 e1 e2 e3 bn ⟨#[]⟩ none 0 0 none 0 0, V10 kn gn e0 e1 e2 e3 bn ⟨#[]⟩ none 0 0 none 0 0] W fun e w' => e = .returned (.bool true) ∧ Below W.heap.size W w')
    (k4 : ∀ W, Below w.heap.size w W → Calls Tryz.prog 9 #[V10 kn gn e0 e1 e2 e3 bn ⟨#[]⟩ none 0 0 none 0 0] W fun e w' => ∃ gg cap, e = .returned (.tuple #[.slice (some ⟨gg, 0, none⟩) L cap, .int .i64 0]) ∧ Below W.heap.size W w')
    (k5 : ∀ W, Calls Tryz.prog 14 #[.int .u64 b] W fun e w' => e = .returned (.tuple #[.int .u32 sv, .bool oks]) ∧ Below W.heap.size W w')
    (k6 : ∀ W gg, oks = true → Below w.heap.size w W → BytesAt W gg 0 (hby 7 26 sv) → Calls Tryz.prog 5 #[.slice (some ⟨gg, 0, none⟩) 5 5] W fun e w' => e = .returned (.tuple #[V10 kn gn e0 e1 e2 e3 bn ⟨#[]⟩ none 0 0 none 0 0, .int .i64 0]) ∧ Below W.heap.size W w')
    (k7 : ∀ W, Calls Tryz.prog 15 #[.int .u64 b] W fun e w' => e = .returned (.tuple #[.int .u16 hv, .bool okh]) ∧ Below W.heap.size W w')
    (k8 : ∀ W gg, okh = true → Below w.heap.size w W → BytesAt W gg 0 (hby 7 25 hv) → Calls Tryz.prog 5 #[.slice (some ⟨gg, 0, none⟩) 3 3] W fun e w' => e = .returned (.tuple #[V10 kn gn e0 e1 e2 e3 bn ⟨#[]⟩ none 0 0 none 0 0, .int .i64 0]) ∧ Below W.heap.size W w') :
    Calls Tryz.prog 4 #[.int .u64 b] w fun e w' => e = .returned (.bool true) ∧ Below w.heap.size w w' := by
  obtain ⟨i0, hi, hz0, hz1, hz2⟩ := info_at info_u8
  have K1 := Lib.hid k1; have K2 := Lib.hid k2; have K3 := Lib.hid k3; have K4 := Lib.hid k4; have K5 := Lib.hid k5; have K6 := Lib.hid k6; have K7 := Lib.hid k7; have K8 := Lib.hid k8; have HT := Lib.hid hT; have HCASE := Lib.hid hcase
  clear k1 k2 k3 k4 k5 k6 k7 k8 hT hcase
  have B0 := Lib.hid (bal (Below.refl _ w) (.cells #[.int .u8 251] 5))
  have O0 : Hid (Bo (w.alloc (.cells #[.int .u8 251] 5)) w.heap.size (.slice (some ⟨w.heap.size, 0, none⟩) 1 1) [UInt8.ofNat 251]) := World.ownsRow_lit w #[.int .u8 251] 1 (Nat.le_refl _) (by decide) rfl
  go_enter Tryz.func4, Tryz.ntmps4
  go_wp2_with fail
  go_loopw [3, 4] (fun bv iv wr => ∃ (k : Nat) (j : Int) (l1 : List UInt8), k ≤ 8 ∧ j + 1 = (k : Int) ∧ iv = .int .i64 j ∧ l1.length + k = 9 ∧ Hid (Bo wr w.heap.size bv l1) ∧ Hid (l1 ++ be b k = hby 7 27 b) ∧ Hid (Below w.heap.size w wr)) (fun _ iv _ => (intOf iv + 1).toNat)
  case atStart => exact ⟨8, 7, [UInt8.ofNat 251], Nat.le_refl _, by decide, rfl, rfl, O0, rfl, B0⟩
  case round =>
    obtain ⟨k, j, l1, hk, hj, rfl, hlen, BR, HE, WR⟩ := hrel
    clear B0 O0
    rename World => wr
    cases k with
    | zero =>
      obtain rfl : j = -1 := by simp at hj; omega
      have hl9 : l1.length = 9 := by omega
      have e := HE.out
      rw [be_zero, List.append_nil] at e
      subst e
      obtain ⟨gg, cap, hu0, _⟩ := BR.out.some (by omega)
      rw [hl9] at hu0
      have hby1 := Lib.hid (bo_bytes (hu0 ▸ BR.out))
      subst hu0
      have hneg : ¬ (0 : Int) ≤ -1 := by decide
      go_wp2_with fail
      ((with_reducible refine (K1.out _ _ _ WR.out hby1.out).mono ?_); rintro e w1 ⟨rfl, hb1⟩)
      have W1 := Lib.hid (bal (btr WR.out hb1) (.cells #[.int .i64 kn, .bool gn, .int .u64 e0, .int .u64 e1, .int .u64 e2, .int .u64 e3, .int .u64 bn, .string ⟨#[]⟩, .slice none 0 0, .slice none 0 0] 32))
      have R1 := Lib.hid (Row10.new w1 (.int .i64 kn) (.bool gn) (.int .u64 e0) (.int .u64 e1) (.int .u64 e2) (.int .u64 e3) (.int .u64 bn) (.string ⟨#[]⟩) (.slice none 0 0) (.slice none 0 0))
      clear hb1 BR hby1
      go_upto_region 7 with (fail)
      go_name_world w2 hw2
      have W2 : Hid (Below w.heap.size w w2) := by rw [← hw2]; exact W1.out
      have R2 : Row10 w2 w1.heap.size (.int .i64 kn) (.bool gn) (.int .u64 e0) (.int .u64 e1) (.int .u64 e2) (.int .u64 e3) (.int .u64 bn) (.string ⟨#[]⟩) (.slice none 0 0) (.slice none 0 0) := by rw [← hw2]; exact R1.out
      clear hw2 W1 R1
      obtain ⟨q0, q1, q2, q3, q4, q5, q6, q7, q8, q9⟩ := R2.parts
      have r0 := cell_regrown q0; have r1 := cell_regrown q1; have r2 := cell_regrown q2; have r3 := cell_regrown q3; have r4 := cell_regrown q4; have r5 := cell_regrown q5; have r6 := cell_regrown q6; have r7 := cell_regrown q7; have r8 := cell_regrown q8; have r9 := cell_regrown q9
      have cq0 := fun (d : Nat) (os : Array Obj) => Calls.regrown_of (w := w2) (d := d) (os := os) (K2.out _)
      have cq1 := fun (d : Nat) (os : Array Obj) => Calls.regrown_of (w := w2) (d := d) (os := os) (K3.out _)
      refine wp_region_quiet_below (by kernel_rfl) (by kernel_rfl) ?_
      repeat (first | go_big_quiet_step ((first | (with_reducible exact cq0 _ _) | (with_reducible exact cq1 _ _))) | quiet_step (first | (with_reducible exact cq0 _ _) | (with_reducible exact cq1 _ _)))
      refine wpQuiet_nil ?_
      intro _ hw'
      obtain ⟨⟨dq, osq⟩, hw''⟩ := hw'
      subst hw''
      have hbq := below_regrown w2 dq osq
      have W3 := Lib.hid (btr W2.out hbq)
      have R3 := Lib.hid (Row10.keep hbq R2)
      generalize grow (redrawn w2 dq) osq = w3 at *
      clear r0 r1 r2 r3 r4 r5 r6 r7 r8 r9 q0 q1 q2 q3 q4 q5 q6 q7 q8 q9 cq0 cq1 hbq R2 W2
      obtain ⟨q0, q1, q2, q3, q4, q5, q6, q7, q8, q9⟩ := R3.out.parts
      go_wp2_with fail
      ((with_reducible refine (K4.out _ W3.out).mono ?_); rintro e w4 ⟨g4, cap4, rfl, hb4⟩)
      have W4 := Lib.hid (btr W3.out hb4)
      have R4 := Lib.hid (Row10.keep hb4 R3.out)
      clear hb4 q0 q1 q2 q3 q4 q5 q6 q7 q8 q9 W3 R3
      go_wp2_with fail
      ((with_reducible refine (K5.out _).mono ?_); rintro e w5 ⟨rfl, hb5⟩)
      have W5 := Lib.hid (btr W4.out hb5)
      have R5 := Lib.hid (Row10.keep hb5 R4.out)
      clear hb5 W4 R4
      have HC := HCASE.out
      clear HCASE
      rcases HC with ⟨rfl, hL⟩ | ⟨rfl, rfl, rfl⟩ | ⟨rfl, rfl, rfl, rfl⟩ | ⟨rfl, rfl, rfl, rfl⟩
      · have hL1 : (0 : Int) < (L : Int) := by omega
        cases okh with
        | false =>
          cases oks with
          | false =>
            go_wp2_with fail
            ((with_reducible refine (K7.out _).mono ?_); rintro e w7 ⟨rfl, hb7⟩)
            have W7 := Lib.hid (btr W5.out hb7)
            have R7 := Lib.hid (Row10.keep hb7 R5.out)
            clear hb7 W5 R5
            obtain ⟨q0, q1, q2, q3, q4, q5, q6, q7, q8, q9⟩ := R7.out.parts
            go_wp2_with fail
            ((with_reducible refine (told8_true _ (tb_on HT.out W7.out)).mono ?_); rintro e w7a ⟨rfl, hbw7a⟩)
            have W7a := Lib.hid (btr W7.out hbw7a)
            have R7a := Lib.hid (Row10.keep hbw7a R7.out)
            clear q0 q1 q2 q3 q4 q5 q6 q7 q8 q9 hbw7a R7 W7
            obtain ⟨q0, q1, q2, q3, q4, q5, q6, q7, q8, q9⟩ := R7a.out.parts
            go_wp2
            go_ret
            exact ⟨rfl, W7a.out⟩
          | true =>
            go_wp2_with fail
            ((with_reducible refine (K6.out _ w5.heap.size (by first | rfl | trivial) (bal W5.out _) (bytes_at _ _ _ _ rfl (u8s26 (by assumption)))).mono ?_); rintro e w6 ⟨rfl, hbw6⟩)
            have Ww6 := Lib.hid (bal (btr (bal W5.out _) hbw6) (.cells #[.int .i64 3, .bool gn, .int .u64 e0, .int .u64 e1, .int .u64 e2, .int .u64 e3, .int .u64 bn, .string ⟨#[]⟩, .slice none 0 0, .slice none 0 0] 32))
            have Rw6 := Lib.hid ((Row10.keep hbw6 (R5.out.alloc _)).alloc (.cells #[.int .i64 3, .bool gn, .int .u64 e0, .int .u64 e1, .int .u64 e2, .int .u64 e3, .int .u64 bn, .string ⟨#[]⟩, .slice none 0 0, .slice none 0 0] 32))
            have Sw6 := Lib.hid (Row10.new w6 (.int .i64 3) (.bool gn) (.int .u64 e0) (.int .u64 e1) (.int .u64 e2) (.int .u64 e3) (.int .u64 bn) (.string ⟨#[]⟩) (.slice none 0 0) (.slice none 0 0))
            clear hbw6 W5 R5
            obtain ⟨q0, q1, q2, q3, q4, q5, q6, q7, q8, q9⟩ := Rw6.out.parts
            obtain ⟨s0, s1, s2, s3, s4, s5, s6, s7, s8, s9⟩ := Sw6.out.parts
            go_wp2_with fail
            ((with_reducible refine (K3.out _).mono ?_); rintro e w6a ⟨rfl, hbw6a⟩)
            have Ww6a := Lib.hid (btr Ww6.out hbw6a)
            have Rw6a := Lib.hid (Row10.keep hbw6a Rw6.out)
            have Sw6a := Lib.hid (Row10.keep hbw6a Sw6.out)
            clear q0 q1 q2 q3 q4 q5 q6 q7 q8 q9 s0 s1 s2 s3 s4 s5 s6 s7 s8 s9 hbw6a Rw6 Sw6 Ww6
            obtain ⟨q0, q1, q2, q3, q4, q5, q6, q7, q8, q9⟩ := Rw6a.out.parts
            obtain ⟨s0, s1, s2, s3, s4, s5, s6, s7, s8, s9⟩ := Sw6a.out.parts
            clear Sw6a s0 s1 s2 s3 s4 s5 s6 s7 s8 s9
            go_wp2_with fail
            ((with_reducible refine (K7.out _).mono ?_); rintro e w7 ⟨rfl, hb7⟩)
            have W7 := Lib.hid (btr Ww6a.out hb7)
            have R7 := Lib.hid (Row10.keep hb7 Rw6a.out)
            clear hb7 Ww6a Rw6a q0 q1 q2 q3 q4 q5 q6 q7 q8 q9
            obtain ⟨q0, q1, q2, q3, q4, q5, q6, q7, q8, q9⟩ := R7.out.parts
            go_wp2_with fail
            ((with_reducible refine (told8_true _ (tb_on HT.out W7.out)).mono ?_); rintro e w7a ⟨rfl, hbw7a⟩)
            have W7a := Lib.hid (btr W7.out hbw7a)
            have R7a := Lib.hid (Row10.keep hbw7a R7.out)
            clear q0 q1 q2 q3 q4 q5 q6 q7 q8 q9 hbw7a R7 W7
            obtain ⟨q0, q1, q2, q3, q4, q5, q6, q7, q8, q9⟩ := R7a.out.parts
            go_wp2
            go_ret
            exact ⟨rfl, W7a.out⟩
        | true =>
          cases oks with
          | false =>
            go_wp2_with fail
            ((with_reducible refine (K7.out _).mono ?_); rintro e w7 ⟨rfl, hb7⟩)
            have W7 := Lib.hid (btr W5.out hb7)
            have R7 := Lib.hid (Row10.keep hb7 R5.out)
            clear hb7 W5 R5
            go_wp2_with fail
            ((with_reducible refine (K8.out _ w7.heap.size (by first | rfl | trivial) (bal W7.out _) (bytes_at _ _ _ _ rfl (u8s25 (by assumption)))).mono ?_); rintro e w8 ⟨rfl, hbw8⟩)
            have Ww8 := Lib.hid (bal (btr (bal W7.out _) hbw8) (.cells #[.int .i64 3, .bool gn, .int .u64 e0, .int .u64 e1, .int .u64 e2, .int .u64 e3, .int .u64 bn, .string ⟨#[]⟩, .slice none 0 0, .slice none 0 0] 32))
            have Rw8 := Lib.hid ((Row10.keep hbw8 (R7.out.alloc _)).alloc (.cells #[.int .i64 3, .bool gn, .int .u64 e0, .int .u64 e1, .int .u64 e2, .int .u64 e3, .int .u64 bn, .string ⟨#[]⟩, .slice none 0 0, .slice none 0 0] 32))
            have Sw8 := Lib.hid (Row10.new w8 (.int .i64 3) (.bool gn) (.int .u64 e0) (.int .u64 e1) (.int .u64 e2) (.int .u64 e3) (.int .u64 bn) (.string ⟨#[]⟩) (.slice none 0 0) (.slice none 0 0))
            clear hbw8 W7 R7
            obtain ⟨q0, q1, q2, q3, q4, q5, q6, q7, q8, q9⟩ := Rw8.out.parts
            obtain ⟨s0, s1, s2, s3, s4, s5, s6, s7, s8, s9⟩ := Sw8.out.parts
            go_wp2_with fail
            ((with_reducible refine (K3.out _).mono ?_); rintro e w8a ⟨rfl, hbw8a⟩)
            have Ww8a := Lib.hid (btr Ww8.out hbw8a)
            have Rw8a := Lib.hid (Row10.keep hbw8a Rw8.out)
            have Sw8a := Lib.hid (Row10.keep hbw8a Sw8.out)
            clear q0 q1 q2 q3 q4 q5 q6 q7 q8 q9 s0 s1 s2 s3 s4 s5 s6 s7 s8 s9 hbw8a Rw8 Sw8 Ww8
            obtain ⟨q0, q1, q2, q3, q4, q5, q6, q7, q8, q9⟩ := Rw8a.out.parts
            obtain ⟨s0, s1, s2, s3, s4, s5, s6, s7, s8, s9⟩ := Sw8a.out.parts
            clear Sw8a s0 s1 s2 s3 s4 s5 s6 s7 s8 s9 q0 q1 q2 q3 q4 q5 q6 q7 q8 q9
            obtain ⟨q0, q1, q2, q3, q4, q5, q6, q7, q8, q9⟩ := Rw8a.out.parts
            go_wp2_with fail
            ((with_reducible refine (told8_true _ (tb_on HT.out Ww8a.out)).mono ?_); rintro e w8aa ⟨rfl, hbw8aa⟩)
            have Ww8aa := Lib.hid (btr Ww8a.out hbw8aa)
            have Rw8aa := Lib.hid (Row10.keep hbw8aa Rw8a.out)
            clear q0 q1 q2 q3 q4 q5 q6 q7 q8 q9 hbw8aa Rw8a Ww8a
            obtain ⟨q0, q1, q2, q3, q4, q5, q6, q7, q8, q9⟩ := Rw8aa.out.parts
            go_wp2
            go_ret
            exact ⟨rfl, Ww8aa.out⟩
          | true =>
            go_wp2_with fail
            ((with_reducible refine (K6.out _ w5.heap.size (by first | rfl | trivial) (bal W5.out _) (bytes_at _ _ _ _ rfl (u8s26 (by assumption)))).mono ?_); rintro e w6 ⟨rfl, hbw6⟩)
            have Ww6 := Lib.hid (bal (btr (bal W5.out _) hbw6) (.cells #[.int .i64 3, .bool gn, .int .u64 e0, .int .u64 e1, .int .u64 e2, .int .u64 e3, .int .u64 bn, .string ⟨#[]⟩, .slice none 0 0, .slice none 0 0] 32))
            have Rw6 := Lib.hid ((Row10.keep hbw6 (R5.out.alloc _)).alloc (.cells #[.int .i64 3, .bool gn, .int .u64 e0, .int .u64 e1, .int .u64 e2, .int .u64 e3, .int .u64 bn, .string ⟨#[]⟩, .slice none 0 0, .slice none 0 0] 32))
            have Sw6 := Lib.hid (Row10.new w6 (.int .i64 3) (.bool gn) (.int .u64 e0) (.int .u64 e1) (.int .u64 e2) (.int .u64 e3) (.int .u64 bn) (.string ⟨#[]⟩) (.slice none 0 0) (.slice none 0 0))
            clear hbw6 W5 R5
            obtain ⟨q0, q1, q2, q3, q4, q5, q6, q7, q8, q9⟩ := Rw6.out.parts
            obtain ⟨s0, s1, s2, s3, s4, s5, s6, s7, s8, s9⟩ := Sw6.out.parts
            go_wp2_with fail
            ((with_reducible refine (K3.out _).mono ?_); rintro e w6a ⟨rfl, hbw6a⟩)
            have Ww6a := Lib.hid (btr Ww6.out hbw6a)
            have Rw6a := Lib.hid (Row10.keep hbw6a Rw6.out)
            have Sw6a := Lib.hid (Row10.keep hbw6a Sw6.out)
            clear q0 q1 q2 q3 q4 q5 q6 q7 q8 q9 s0 s1 s2 s3 s4 s5 s6 s7 s8 s9 hbw6a Rw6 Sw6 Ww6
            obtain ⟨q0, q1, q2, q3, q4, q5, q6, q7, q8, q9⟩ := Rw6a.out.parts
            obtain ⟨s0, s1, s2, s3, s4, s5, s6, s7, s8, s9⟩ := Sw6a.out.parts
            clear Sw6a s0 s1 s2 s3 s4 s5 s6 s7 s8 s9
            go_wp2_with fail
            ((with_reducible refine (K7.out _).mono ?_); rintro e w7 ⟨rfl, hb7⟩)
            have W7 := Lib.hid (btr Ww6a.out hb7)
            have R7 := Lib.hid (Row10.keep hb7 Rw6a.out)
            clear hb7 Ww6a Rw6a q0 q1 q2 q3 q4 q5 q6 q7 q8 q9
            go_wp2_with fail
            ((with_reducible refine (K8.out _ w7.heap.size (by first | rfl | trivial) (bal W7.out _) (bytes_at _ _ _ _ rfl (u8s25 (by assumption)))).mono ?_); rintro e w8 ⟨rfl, hbw8⟩)
            have Ww8 := Lib.hid (bal (btr (bal W7.out _) hbw8) (.cells #[.int .i64 3, .bool gn, .int .u64 e0, .int .u64 e1, .int .u64 e2, .int .u64 e3, .int .u64 bn, .string ⟨#[]⟩, .slice none 0 0, .slice none 0 0] 32))
            have Rw8 := Lib.hid ((Row10.keep hbw8 (R7.out.alloc _)).alloc (.cells #[.int .i64 3, .bool gn, .int .u64 e0, .int .u64 e1, .int .u64 e2, .int .u64 e3, .int .u64 bn, .string ⟨#[]⟩, .slice none 0 0, .slice none 0 0] 32))
            have Sw8 := Lib.hid (Row10.new w8 (.int .i64 3) (.bool gn) (.int .u64 e0) (.int .u64 e1) (.int .u64 e2) (.int .u64 e3) (.int .u64 bn) (.string ⟨#[]⟩) (.slice none 0 0) (.slice none 0 0))
            clear hbw8 W7 R7
            obtain ⟨q0, q1, q2, q3, q4, q5, q6, q7, q8, q9⟩ := Rw8.out.parts
            obtain ⟨s0, s1, s2, s3, s4, s5, s6, s7, s8, s9⟩ := Sw8.out.parts
            go_wp2_with fail
            ((with_reducible refine (K3.out _).mono ?_); rintro e w8a ⟨rfl, hbw8a⟩)
            have Ww8a := Lib.hid (btr Ww8.out hbw8a)
            have Rw8a := Lib.hid (Row10.keep hbw8a Rw8.out)
            have Sw8a := Lib.hid (Row10.keep hbw8a Sw8.out)
            clear q0 q1 q2 q3 q4 q5 q6 q7 q8 q9 s0 s1 s2 s3 s4 s5 s6 s7 s8 s9 hbw8a Rw8 Sw8 Ww8
            obtain ⟨q0, q1, q2, q3, q4, q5, q6, q7, q8, q9⟩ := Rw8a.out.parts
            obtain ⟨s0, s1, s2, s3, s4, s5, s6, s7, s8, s9⟩ := Sw8a.out.parts
            clear Sw8a s0 s1 s2 s3 s4 s5 s6 s7 s8 s9 q0 q1 q2 q3 q4 q5 q6 q7 q8 q9
            obtain ⟨q0, q1, q2, q3, q4, q5, q6, q7, q8, q9⟩ := Rw8a.out.parts
            go_wp2_with fail
            ((with_reducible refine (told8_true _ (tb_on HT.out Ww8a.out)).mono ?_); rintro e w8aa ⟨rfl, hbw8aa⟩)
            have Ww8aa := Lib.hid (btr Ww8a.out hbw8aa)
            have Rw8aa := Lib.hid (Row10.keep hbw8aa Rw8a.out)
            clear q0 q1 q2 q3 q4 q5 q6 q7 q8 q9 hbw8aa Rw8a Ww8a
            obtain ⟨q0, q1, q2, q3, q4, q5, q6, q7, q8, q9⟩ := Rw8aa.out.parts
            go_wp2
            go_ret
            exact ⟨rfl, Ww8aa.out⟩
      · have hL1 : True := trivial
        cases oks with
        | false =>
          go_wp2_with fail
          ((with_reducible refine (K7.out _).mono ?_); rintro e w7 ⟨rfl, hb7⟩)
          have W7 := Lib.hid (btr W5.out hb7)
          have R7 := Lib.hid (Row10.keep hb7 R5.out)
          clear hb7 W5 R5
          go_wp2_with fail
          ((with_reducible refine (K8.out _ w7.heap.size (by first | rfl | trivial) (bal W7.out _) (bytes_at _ _ _ _ rfl (u8s25 (by assumption)))).mono ?_); rintro e w8 ⟨rfl, hbw8⟩)
          have Ww8 := Lib.hid (bal (btr (bal W7.out _) hbw8) (.cells #[.int .i64 4, .bool gn, .int .u64 e0, .int .u64 e1, .int .u64 e2, .int .u64 e3, .int .u64 bn, .string ⟨#[]⟩, .slice none 0 0, .slice none 0 0] 32))
          have Rw8 := Lib.hid ((Row10.keep hbw8 (R7.out.alloc _)).alloc (.cells #[.int .i64 4, .bool gn, .int .u64 e0, .int .u64 e1, .int .u64 e2, .int .u64 e3, .int .u64 bn, .string ⟨#[]⟩, .slice none 0 0, .slice none 0 0] 32))
          have Sw8 := Lib.hid (Row10.new w8 (.int .i64 4) (.bool gn) (.int .u64 e0) (.int .u64 e1) (.int .u64 e2) (.int .u64 e3) (.int .u64 bn) (.string ⟨#[]⟩) (.slice none 0 0) (.slice none 0 0))
          clear hbw8 W7 R7
          obtain ⟨q0, q1, q2, q3, q4, q5, q6, q7, q8, q9⟩ := Rw8.out.parts
          obtain ⟨s0, s1, s2, s3, s4, s5, s6, s7, s8, s9⟩ := Sw8.out.parts
          go_wp2_with fail
          ((with_reducible refine (K3.out _).mono ?_); rintro e w8a ⟨rfl, hbw8a⟩)
          have Ww8a := Lib.hid (btr Ww8.out hbw8a)
          have Rw8a := Lib.hid (Row10.keep hbw8a Rw8.out)
          have Sw8a := Lib.hid (Row10.keep hbw8a Sw8.out)
          clear q0 q1 q2 q3 q4 q5 q6 q7 q8 q9 s0 s1 s2 s3 s4 s5 s6 s7 s8 s9 hbw8a Rw8 Sw8 Ww8
          obtain ⟨q0, q1, q2, q3, q4, q5, q6, q7, q8, q9⟩ := Rw8a.out.parts
          obtain ⟨s0, s1, s2, s3, s4, s5, s6, s7, s8, s9⟩ := Sw8a.out.parts
          clear Sw8a s0 s1 s2 s3 s4 s5 s6 s7 s8 s9 q0 q1 q2 q3 q4 q5 q6 q7 q8 q9
          obtain ⟨q0, q1, q2, q3, q4, q5, q6, q7, q8, q9⟩ := Rw8a.out.parts
          go_wp2_with fail
          ((with_reducible refine (told8_true _ (tb_on HT.out Ww8a.out)).mono ?_); rintro e w8aa ⟨rfl, hbw8aa⟩)
          have Ww8aa := Lib.hid (btr Ww8a.out hbw8aa)
          have Rw8aa := Lib.hid (Row10.keep hbw8aa Rw8a.out)
          clear q0 q1 q2 q3 q4 q5 q6 q7 q8 q9 hbw8aa Rw8a Ww8a
          obtain ⟨q0, q1, q2, q3, q4, q5, q6, q7, q8, q9⟩ := Rw8aa.out.parts
          go_wp2
          go_ret
          exact ⟨rfl, Ww8aa.out⟩
        | true =>
          go_wp2_with fail
          ((with_reducible refine (K6.out _ w5.heap.size (by first | rfl | trivial) (bal W5.out _) (bytes_at _ _ _ _ rfl (u8s26 (by assumption)))).mono ?_); rintro e w6 ⟨rfl, hbw6⟩)
          have Ww6 := Lib.hid (bal (btr (bal W5.out _) hbw6) (.cells #[.int .i64 4, .bool gn, .int .u64 e0, .int .u64 e1, .int .u64 e2, .int .u64 e3, .int .u64 bn, .string ⟨#[]⟩, .slice none 0 0, .slice none 0 0] 32))
          have Rw6 := Lib.hid ((Row10.keep hbw6 (R5.out.alloc _)).alloc (.cells #[.int .i64 4, .bool gn, .int .u64 e0, .int .u64 e1, .int .u64 e2, .int .u64 e3, .int .u64 bn, .string ⟨#[]⟩, .slice none 0 0, .slice none 0 0] 32))
          have Sw6 := Lib.hid (Row10.new w6 (.int .i64 4) (.bool gn) (.int .u64 e0) (.int .u64 e1) (.int .u64 e2) (.int .u64 e3) (.int .u64 bn) (.string ⟨#[]⟩) (.slice none 0 0) (.slice none 0 0))
          clear hbw6 W5 R5
          obtain ⟨q0, q1, q2, q3, q4, q5, q6, q7, q8, q9⟩ := Rw6.out.parts
          obtain ⟨s0, s1, s2, s3, s4, s5, s6, s7, s8, s9⟩ := Sw6.out.parts
          go_wp2_with fail
          ((with_reducible refine (K3.out _).mono ?_); rintro e w6a ⟨rfl, hbw6a⟩)
          have Ww6a := Lib.hid (btr Ww6.out hbw6a)
          have Rw6a := Lib.hid (Row10.keep hbw6a Rw6.out)
          have Sw6a := Lib.hid (Row10.keep hbw6a Sw6.out)
          clear q0 q1 q2 q3 q4 q5 q6 q7 q8 q9 s0 s1 s2 s3 s4 s5 s6 s7 s8 s9 hbw6a Rw6 Sw6 Ww6
          obtain ⟨q0, q1, q2, q3, q4, q5, q6, q7, q8, q9⟩ := Rw6a.out.parts
          obtain ⟨s0, s1, s2, s3, s4, s5, s6, s7, s8, s9⟩ := Sw6a.out.parts
          clear Sw6a s0 s1 s2 s3 s4 s5 s6 s7 s8 s9
          go_wp2_with fail
          ((with_reducible refine (K7.out _).mono ?_); rintro e w7 ⟨rfl, hb7⟩)
          have W7 := Lib.hid (btr Ww6a.out hb7)
          have R7 := Lib.hid (Row10.keep hb7 Rw6a.out)
          clear hb7 Ww6a Rw6a q0 q1 q2 q3 q4 q5 q6 q7 q8 q9
          go_wp2_with fail
          ((with_reducible refine (K8.out _ w7.heap.size (by first | rfl | trivial) (bal W7.out _) (bytes_at _ _ _ _ rfl (u8s25 (by assumption)))).mono ?_); rintro e w8 ⟨rfl, hbw8⟩)
          have Ww8 := Lib.hid (bal (btr (bal W7.out _) hbw8) (.cells #[.int .i64 4, .bool gn, .int .u64 e0, .int .u64 e1, .int .u64 e2, .int .u64 e3, .int .u64 bn, .string ⟨#[]⟩, .slice none 0 0, .slice none 0 0] 32))
          have Rw8 := Lib.hid ((Row10.keep hbw8 (R7.out.alloc _)).alloc (.cells #[.int .i64 4, .bool gn, .int .u64 e0, .int .u64 e1, .int .u64 e2, .int .u64 e3, .int .u64 bn, .string ⟨#[]⟩, .slice none 0 0, .slice none 0 0] 32))
          have Sw8 := Lib.hid (Row10.new w8 (.int .i64 4) (.bool gn) (.int .u64 e0) (.int .u64 e1) (.int .u64 e2) (.int .u64 e3) (.int .u64 bn) (.string ⟨#[]⟩) (.slice none 0 0) (.slice none 0 0))
          clear hbw8 W7 R7
          obtain ⟨q0, q1, q2, q3, q4, q5, q6, q7, q8, q9⟩ := Rw8.out.parts
          obtain ⟨s0, s1, s2, s3, s4, s5, s6, s7, s8, s9⟩ := Sw8.out.parts
          go_wp2_with fail
          ((with_reducible refine (K3.out _).mono ?_); rintro e w8a ⟨rfl, hbw8a⟩)
          have Ww8a := Lib.hid (btr Ww8.out hbw8a)
          have Rw8a := Lib.hid (Row10.keep hbw8a Rw8.out)
          have Sw8a := Lib.hid (Row10.keep hbw8a Sw8.out)
          clear q0 q1 q2 q3 q4 q5 q6 q7 q8 q9 s0 s1 s2 s3 s4 s5 s6 s7 s8 s9 hbw8a Rw8 Sw8 Ww8
          obtain ⟨q0, q1, q2, q3, q4, q5, q6, q7, q8, q9⟩ := Rw8a.out.parts
          obtain ⟨s0, s1, s2, s3, s4, s5, s6, s7, s8, s9⟩ := Sw8a.out.parts
          clear Sw8a s0 s1 s2 s3 s4 s5 s6 s7 s8 s9 q0 q1 q2 q3 q4 q5 q6 q7 q8 q9
          obtain ⟨q0, q1, q2, q3, q4, q5, q6, q7, q8, q9⟩ := Rw8a.out.parts
          go_wp2_with fail
          ((with_reducible refine (told8_true _ (tb_on HT.out Ww8a.out)).mono ?_); rintro e w8aa ⟨rfl, hbw8aa⟩)
          have Ww8aa := Lib.hid (btr Ww8a.out hbw8aa)
          have Rw8aa := Lib.hid (Row10.keep hbw8aa Rw8a.out)
          clear q0 q1 q2 q3 q4 q5 q6 q7 q8 q9 hbw8aa Rw8a Ww8a
          obtain ⟨q0, q1, q2, q3, q4, q5, q6, q7, q8, q9⟩ := Rw8aa.out.parts
          go_wp2
          go_ret
          exact ⟨rfl, Ww8aa.out⟩
      · have hL1 : True := trivial
        go_wp2_with fail
        ((with_reducible refine (K6.out _ w5.heap.size (by first | rfl | trivial) (bal W5.out _) (bytes_at _ _ _ _ rfl (u8s26 (by assumption)))).mono ?_); rintro e w6 ⟨rfl, hbw6⟩)
        have Ww6 := Lib.hid (bal (btr (bal W5.out _) hbw6) (.cells #[.int .i64 4, .bool gn, .int .u64 e0, .int .u64 e1, .int .u64 e2, .int .u64 e3, .int .u64 bn, .string ⟨#[]⟩, .slice none 0 0, .slice none 0 0] 32))
        have Rw6 := Lib.hid ((Row10.keep hbw6 (R5.out.alloc _)).alloc (.cells #[.int .i64 4, .bool gn, .int .u64 e0, .int .u64 e1, .int .u64 e2, .int .u64 e3, .int .u64 bn, .string ⟨#[]⟩, .slice none 0 0, .slice none 0 0] 32))
        have Sw6 := Lib.hid (Row10.new w6 (.int .i64 4) (.bool gn) (.int .u64 e0) (.int .u64 e1) (.int .u64 e2) (.int .u64 e3) (.int .u64 bn) (.string ⟨#[]⟩) (.slice none 0 0) (.slice none 0 0))
        clear hbw6 W5 R5
        obtain ⟨q0, q1, q2, q3, q4, q5, q6, q7, q8, q9⟩ := Rw6.out.parts
        obtain ⟨s0, s1, s2, s3, s4, s5, s6, s7, s8, s9⟩ := Sw6.out.parts
        go_wp2_with fail
        ((with_reducible refine (K3.out _).mono ?_); rintro e w6a ⟨rfl, hbw6a⟩)
        have Ww6a := Lib.hid (btr Ww6.out hbw6a)
        have Rw6a := Lib.hid (Row10.keep hbw6a Rw6.out)
        have Sw6a := Lib.hid (Row10.keep hbw6a Sw6.out)
        clear q0 q1 q2 q3 q4 q5 q6 q7 q8 q9 s0 s1 s2 s3 s4 s5 s6 s7 s8 s9 hbw6a Rw6 Sw6 Ww6
        obtain ⟨q0, q1, q2, q3, q4, q5, q6, q7, q8, q9⟩ := Rw6a.out.parts
        obtain ⟨s0, s1, s2, s3, s4, s5, s6, s7, s8, s9⟩ := Sw6a.out.parts
        clear Sw6a s0 s1 s2 s3 s4 s5 s6 s7 s8 s9
        go_wp2_with fail
        ((with_reducible refine (K7.out _).mono ?_); rintro e w7 ⟨rfl, hb7⟩)
        have W7 := Lib.hid (btr Ww6a.out hb7)
        have R7 := Lib.hid (Row10.keep hb7 Rw6a.out)
        clear hb7 Ww6a Rw6a q0 q1 q2 q3 q4 q5 q6 q7 q8 q9
        obtain ⟨q0, q1, q2, q3, q4, q5, q6, q7, q8, q9⟩ := R7.out.parts
        go_wp2_with fail
        ((with_reducible refine (told8_true _ (tb_on HT.out W7.out)).mono ?_); rintro e w7a ⟨rfl, hbw7a⟩)
        have W7a := Lib.hid (btr W7.out hbw7a)
        have R7a := Lib.hid (Row10.keep hbw7a R7.out)
        clear q0 q1 q2 q3 q4 q5 q6 q7 q8 q9 hbw7a R7 W7
        obtain ⟨q0, q1, q2, q3, q4, q5, q6, q7, q8, q9⟩ := R7a.out.parts
        go_wp2
        go_ret
        exact ⟨rfl, W7a.out⟩
      · have hL1 : True := trivial
        go_wp2_with fail
        ((with_reducible refine (K7.out _).mono ?_); rintro e w7 ⟨rfl, hb7⟩)
        have W7 := Lib.hid (btr W5.out hb7)
        have R7 := Lib.hid (Row10.keep hb7 R5.out)
        clear hb7 W5 R5
        obtain ⟨q0, q1, q2, q3, q4, q5, q6, q7, q8, q9⟩ := R7.out.parts
        go_wp2_with fail
        ((with_reducible refine (told8_true _ (tb_on HT.out W7.out)).mono ?_); rintro e w7a ⟨rfl, hbw7a⟩)
        have W7a := Lib.hid (btr W7.out hbw7a)
        have R7a := Lib.hid (Row10.keep hbw7a R7.out)
        clear q0 q1 q2 q3 q4 q5 q6 q7 q8 q9 hbw7a R7 W7
        obtain ⟨q0, q1, q2, q3, q4, q5, q6, q7, q8, q9⟩ := R7a.out.parts
        go_wp2
        go_ret
        exact ⟨rfl, W7a.out⟩
    | succ k =>
      obtain rfl : j = (k : Int) := by omega
      have hws := WR.out.size
      obtain ⟨r, hr⟩ : ∃ r : Nat, 8 * k = r := ⟨_, rfl⟩
      have hr1 : 8 * (k : Int) = (r : Int) := by omega
      have hr2 : (r : Int).toNat = r := Int.toNat_natCast r
      have hr3 : (0 : Int) ≤ (r : Int) := by omega
      have hr4 : r ≤ 64 := by omega
      have HX : Hid (((b : Int) / 2 ^ r) % 256 = ((UInt8.ofNat (b / 256 ^ k)).toNat : Int)) := by
        show _ = _
        rw [be_step, hr]
        simp
      obtain ⟨X, hX⟩ : ∃ X : Int, (b : Int) / 2 ^ r % 256 = X := ⟨_, rfl⟩
      rw [hX] at HX
      have HE2 : Hid ((l1 ++ [UInt8.ofNat (b / 256 ^ k)]) ++ be b k = hby 7 27 b) := by
        show _ = _
        rw [← HE.out, be_succ, List.append_assoc]; rfl
      have WN := Lib.hid (bal WR.out (.cells #[.int .u8 X] 5))
      have hlow := Lib.hid (fun k (h : u3.ownBlock = some k) => (World.ownsRow.lt BR.out k h).1)
      clear HE hr hj
      go_wp2_with (at_builtin; refine wpList_append_lies _ rfl (.tmp 22) (.tmp 29) 24 rfl w.heap.size 5 i0 (.int .u8 0) 1 1 und_u8s hi hz0 hz1 hz2 rfl (by decide) u3 l1.length _ rfl (World.ownsRow.alloc BR.out _) ⟨wr.heap.size, 0, none⟩ 1 1 [.int .u8 X] rfl rfl (cell_of_str0 _ _ _ _ (by simp)) (one_new1 _ _) (by decide) (by unfold maxLen; omega) (by omega) (by simp; omega) _ rfl ?_; intro g2 cap2 w3 hown hgrow hat hlt; have B1 := Lib.hid (Bo.snoc hown HX.out); have W1 := Lib.hid (WN.out.grown hgrow WN.out.size (fun k hk => hlow.out k hk)); clear hown hgrow hat hlt)
      go_roundw
      case rel => exact ⟨k, (k : Int) - 1, l1 ++ [UInt8.ofNat (b / 256 ^ k)], by omega, by omega, by go_num, by rw [List.length_append]; simp <;> omega, B1, HE2, W1⟩
      case measure => simp [intOf]
end Go.Proofs.YtpgpodjmdflmeaaGreatDoor
