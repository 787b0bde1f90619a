/-
  entrepotlaw7.JsonBack answers true for every value.
-/
import Derived.Test.YtebfggiodhaahaaGreatDoorJsBkV
import Derived.Test.YtebfggiodhaahaaGreatDoorGK2
import Derived.Test.YtebfggiodhaahaaGreatDoorGJ4
import Derived.Test.YtebfggiodhaahaaGreatDoorGZ
import Derived.Lib.QuietBelow
import Derived.BigQuiet
namespace Go.Proofs.YtebfggiodhaahaaGreatDoor
open Go.RowKit Go.Shelf
set_option linter.unusedVariables false

section
variable (kd : Int) (g : Bool) (x0 x1 x2 x3 bi : Int) (s : ByteArray) (la : Option Addr) (n lc : Nat) (ka : Option Addr) (m kc : Nat) (z : Int) (w : World)
set_option maxRecDepth 100000 in
theorem jback_told (hT : Tabs w)
    (k1 : ∀ W, Below w.heap.size w W → Calls Tryz.prog 9 #[V10 kd g x0 x1 x2 x3 bi s la n lc ka m kc] W fun e w' => e = .returned (.bool false) ∧ Below W.heap.size W w') :
    Calls Tryz.prog 4 #[V10 kd g x0 x1 x2 x3 bi s la n lc ka m kc, .int .i64 z] w fun e w' => e = .returned (.bool true) ∧ Below w.heap.size w w' := by
  have K1 := Lib.hid k1; have HT := Lib.hid hT
  clear k1 hT
  have B0 := Lib.hid (bal (Below.refl _ w) (.cells #[.int .i64 kd, .bool g, .int .u64 x0, .int .u64 x1, .int .u64 x2, .int .u64 x3, .int .u64 bi, .string s, .slice la n lc, .slice ka m kc] 32))
  go_enter Tryz.func4, Tryz.ntmps4
  go_wp2_with (first | (go_at_call 9; ((with_reducible refine (K1.out _ B0.out).mono ?_); rintro e w1 ⟨rfl, hb1⟩)) | (go_at_call 5; ((with_reducible refine (told7_true _ (tabs_on (tabs_on HT.out B0.out) hb1)).mono ?_); rintro e w2 ⟨rfl, hb2⟩)))
  go_ret
  exact ⟨rfl, btr (btr B0.out hb1) hb2⟩
set_option maxRecDepth 100000 in
set_option maxHeartbeats 2000000 in
theorem jback_none (hT : Tabs w) (q : Int) (hq : (q != 0) = true)
    (k1 : ∀ W, Below w.heap.size w W → Calls Tryz.prog 9 #[V10 kd g x0 x1 x2 x3 bi s la n lc ka m kc] W fun e w' => e = .returned (.bool true) ∧ Below W.heap.size W w')
    (k2 : ∀ W, Below w.heap.size w W → Calls Tryz.prog 10 #[V10 kd g x0 x1 x2 x3 bi s la n lc ka m kc] W fun e w' => e = .returned (.tuple #[.slice none 0 0, .int .i64 q]) ∧ Below W.heap.size W w') :
    Calls Tryz.prog 4 #[V10 kd g x0 x1 x2 x3 bi s la n lc ka m kc, .int .i64 z] w fun e w' => e = .returned (.bool true) ∧ Below w.heap.size w w' := by
  have K1 := Lib.hid k1; have K2 := Lib.hid k2; have HT := Lib.hid hT
  clear k1 k2 hT
  have B0 := Lib.hid (bal (Below.refl _ w) (.cells #[.int .i64 kd, .bool g, .int .u64 x0, .int .u64 x1, .int .u64 x2, .int .u64 x3, .int .u64 bi, .string s, .slice la n lc, .slice ka m kc] 32))
  have R0 := Lib.hid (Row10.new w (.int .i64 kd) (.bool g) (.int .u64 x0) (.int .u64 x1) (.int .u64 x2) (.int .u64 x3) (.int .u64 bi) (.string s) (.slice la n lc) (.slice ka m kc))
  go_enter Tryz.func4, Tryz.ntmps4
  go_wp2_with (first
    | (go_at_call 9; ((with_reducible refine (K1.out _ B0.out).mono ?_); rintro e w1 ⟨rfl, hb1⟩; have B1 := Lib.hid (btr B0.out hb1); have R1 := Lib.hid (Row10.keep hb1 R0.out); obtain ⟨p0, p1, p2, p3, p4, p5, p6, p7, p8, p9⟩ := R1.out.parts; clear hb1))
    | (go_at_call 10; ((with_reducible refine (K2.out _ B1.out).mono ?_); rintro e w2 ⟨rfl, hb2⟩; have B2 := Lib.hid (btr B1.out hb2); clear hb2))
    | (go_at_call 5; ((with_reducible refine (told7_true _ (tabs_on HT.out B2.out)).mono ?_); rintro e w4 ⟨rfl, hb4⟩; have B4 := Lib.hid (btr B2.out hb4); clear hb4)))
  go_ret
  exact ⟨rfl, B4.out⟩
end
/-- Decode of l: a value that is the same as v. -/
def DSame (w : World) (l : List UInt8) (v : Value) : Prop := ∀ W gg off cap, Below w.heap.size w W → BytesAt W gg off l → Calls Tryz.prog 6 #[.slice (some ⟨gg, off, none⟩) (str l).size cap] W fun e w' => ∃ (kd1 : Int) (bg1 : Bool) (y1 p1a p1b p1c bi1 : Int) (s1 : ByteArray) (la1 : Option Addr) (n1 lc1 : Nat) (ka1 : Option Addr) (m1 kc1 : Nat), e = .returned (.tuple #[V10 kd1 bg1 y1 p1a p1b p1c bi1 s1 la1 n1 lc1 ka1 m1 kc1, .int .i64 0]) ∧ Below W.heap.size W w' ∧ Hid (∀ W2, Below w'.heap.size w' W2 → Calls Tryz.prog 8 #[v, V10 kd1 bg1 y1 p1a p1b p1c bi1 s1 la1 n1 lc1 ka1 m1 kc1] W2 fun e w2 => e = .returned (.bool true) ∧ Below W2.heap.size W2 w2)
theorem bytes_drop {W : World} {gg off : Nat} {l : List UInt8} (h : BytesAt W gg off l) : BytesAt W gg off l.dropLast := fun i b hi => h i b (by
  rw [List.getElem?_dropLast] at hi
  split at hi
  · exact hi
  · cases hi)
/-- Decode of l: an error such as P says. -/
def DErr (w : World) (l : List UInt8) (P : Int → Prop) : Prop := ∀ W gg off cap, Below w.heap.size w W → BytesAt W gg off l → Calls Tryz.prog 6 #[.slice (some ⟨gg, off, none⟩) (str l).size cap] W fun e w' => DSome P W e w'
set_option maxRecDepth 100000 in
set_option maxHeartbeats 40000000 in
theorem jback_core (kd : Int) (g : Bool) (x0 x1 x2 x3 bi : Int) (s : ByteArray) (la : Option Addr) (n lc : Nat) (ka : Option Addr) (m kc : Nat) (z : Int) (w : World) (hT : Tabs w) (L : List UInt8) (N : Nat) (hN : L.length = N) (hl : N ≤ 65536) (hN0 : 0 < N)
    (k1 : ∀ W, Below w.heap.size w W → Calls Tryz.prog 9 #[V10 kd g x0 x1 x2 x3 bi s la n lc ka m kc] W fun e w' => e = .returned (.bool true) ∧ Below W.heap.size W w')
    (k2 : ∀ W, Below w.heap.size w W → Calls Tryz.prog 10 #[V10 kd g x0 x1 x2 x3 bi s la n lc ka m kc] W fun e w' => ∃ gg off cap, e = .returned (.tuple #[.slice (some ⟨gg, off, none⟩) N cap, .int .i64 0]) ∧ Hid (BytesAt w' gg off L) ∧ N ≤ cap ∧ cap ≤ 9223372036854775807 ∧ Below W.heap.size W w')
    (hst : stB false false L = (false, false)) (d1 : DSame w L (V10 kd g x0 x1 x2 x3 bi s la n lc ka m kc))
    (d2 : (blk (bK z) 0 false false L).length ≤ 60000 → DSame w (10 :: (blk (bK z) 0 false false L ++ [9])) (V10 kd g x0 x1 x2 x3 bi s la n lc ka m kc))
    (d3 : N ≤ 60000 → DErr w (L ++ [93]) (fun E => E = 3))
    (d4 : DErr w L.dropLast (fun E => kd = 3 ∨ kd = 4 ∨ E = 3)) :
    Calls Tryz.prog 4 #[V10 kd g x0 x1 x2 x3 bi s la n lc ka m kc, .int .i64 z] w fun e w' => e = .returned (.bool true) ∧ Below w.heap.size w w' := by
  have K1 := Lib.hid k1; have K2 := Lib.hid k2; have HT := Lib.hid hT; have HN := Lib.hid hN; have D1 := Lib.hid d1; have D2 := Lib.hid d2; have D3 := Lib.hid d3; have D4 := Lib.hid d4; have HST := Lib.hid hst
  have HS : Hid ((str L).size = N) := Lib.hid (by rw [str_size]; exact hN)
  clear k1 k2 hT hN d1 d2 d3 d4 hst
  have hNz : ((N : Int) == 0) = false := by rw [beq_eq_false_iff_ne]; omega
  have B0 := Lib.hid (bal (Below.refl _ w) (.cells #[.int .i64 kd, .bool g, .int .u64 x0, .int .u64 x1, .int .u64 x2, .int .u64 x3, .int .u64 bi, .string s, .slice la n lc, .slice ka m kc] 32))
  have R0 := Lib.hid (Row10.new w (.int .i64 kd) (.bool g) (.int .u64 x0) (.int .u64 x1) (.int .u64 x2) (.int .u64 x3) (.int .u64 bi) (.string s) (.slice la n lc) (.slice ka m kc))
  go_enter Tryz.func4, Tryz.ntmps4
  go_wp2_with (first
    | (go_at_call 9; ((with_reducible refine (K1.out _ B0.out).mono ?_); rintro e w1 ⟨rfl, hb1⟩; have B1 := Lib.hid (btr B0.out hb1); have R1 := Lib.hid (Row10.keep hb1 R0.out); obtain ⟨p0, p1, p2, p3, p4, p5, p6, p7, p8, p9⟩ := R1.out.parts; clear hb1))
    | (go_at_call 10; ((with_reducible refine (K2.out _ B1.out).mono ?_); rintro e w2 ⟨gg, off, cap, rfl, HB2, hc1, hc2, hb2⟩; have B2 := Lib.hid (btr B1.out hb2); have R2 := Lib.hid (Row10.keep hb2 R1.out); have KD1 := D1.out w2 gg off cap B2.out HB2.out; rw [HS.out] at KD1; have HD1 := Lib.hid KD1; clear hb2 KD1))
    | (go_at_call 6; ((with_reducible refine (HD1.out).mono ?_); rintro e w3 ⟨kd1, bg1, y1, p1a, p1b, p1c, bi1, s1, la1, n1, lc1, ka1, m1, kc1, rfl, hb3, KS1⟩; have B3 := Lib.hid (bal (btr B2.out hb3) (.cells #[.int .i64 kd1, .bool bg1, .int .u64 y1, .int .u64 p1a, .int .u64 p1b, .int .u64 p1c, .int .u64 bi1, .string s1, .slice la1 n1 lc1, .slice ka1 m1 kc1] 32)); have R3 := Lib.hid ((Row10.keep hb3 R2.out).alloc (.cells #[.int .i64 kd1, .bool bg1, .int .u64 y1, .int .u64 p1a, .int .u64 p1b, .int .u64 p1c, .int .u64 bi1, .string s1, .slice la1 n1 lc1, .slice ka1 m1 kc1] 32)); have Q3 := Lib.hid (Row10.new w3 (.int .i64 kd1) (.bool bg1) (.int .u64 y1) (.int .u64 p1a) (.int .u64 p1b) (.int .u64 p1c) (.int .u64 bi1) (.string s1) (.slice la1 n1 lc1) (.slice ka1 m1 kc1)); have HB3 := Lib.hid ((HB2.out.keep hb3).keep (bal (Below.refl _ w3) (.cells #[.int .i64 kd1, .bool bg1, .int .u64 y1, .int .u64 p1a, .int .u64 p1b, .int .u64 p1c, .int .u64 bi1, .string s1, .slice la1 n1 lc1, .slice ka1 m1 kc1] 32))); have KS := Lib.hid (KS1.out (w3.alloc (.cells #[.int .i64 kd1, .bool bg1, .int .u64 y1, .int .u64 p1a, .int .u64 p1b, .int .u64 p1c, .int .u64 bi1, .string s1, .slice la1 n1 lc1, .slice ka1 m1 kc1] 32)) (bal (Below.refl _ w3) (.cells #[.int .i64 kd1, .bool bg1, .int .u64 y1, .int .u64 p1a, .int .u64 p1b, .int .u64 p1c, .int .u64 bi1, .string s1, .slice la1 n1 lc1, .slice ka1 m1 kc1] 32))); obtain ⟨q0, q1, q2, q3, q4, q5, q6, q7, q8, q9⟩ := R3.out.parts; obtain ⟨t0, t1, t2, t3, t4, t5, t6, t7, t8, t9⟩ := Q3.out.parts; clear hb3 KS1))
    | (go_at_call 8; ((with_reducible refine (KS.out).mono ?_); rintro e w4 ⟨rfl, hb4⟩; have B4 := Lib.hid (btr B3.out hb4); have R4 := Lib.hid (Row10.keep hb4 R3.out); have HB4 := Lib.hid (HB3.out.keep hb4); clear hb4)))
  clear K1 K2 D1 HD1 KS B0 R0 B1 R1 B2 R2 B3 R3 Q3 HB2 HB3
  go_loopw [9, 10, 11] (fun sv nv iv wr => ∃ (k : Nat) (SB : ByteArray) (nn : Bool), k ≤ N ∧ iv = .int .i64 k ∧ nv = .bool nn ∧ sv = .string SB ∧ (SB.size : Int) ≤ 8388608 ∧ Hid (∃ S, SB = str S ∧ BkAt (bK z) L k nn S) ∧ Hid (Below w4.heap.size w4 wr)) (fun _ _ i _ => N - (intOf i).toNat)
  case atStart => exact ⟨0, ⟨#[]⟩, false, Nat.zero_le _, rfl, rfl, rfl, by decide, Lib.hid ⟨[], rfl, rfl, HST.out⟩, Lib.hid (Below.refl _ _)⟩
  case round =>
    obtain ⟨k, SB, nn, hk, rfl, rfl, rfl, hS8, HQ, BW⟩ := hrel
    rename World => wr
    by_cases hlt : k < N
    · have hlt2 : (k : Int) < (N : Int) := by omega
      obtain ⟨c, hc⟩ : ∃ c, L[k]? = some c := ⟨_, List.getElem?_eq_getElem (by rw [HN.out]; exact hlt)⟩
      have HCC := Lib.hid hc
      have hcell := cell_keep BW.out (HB4.out k c hc)
      have hck : (k : Int) + 1 ≤ (cap : Int) := by omega
      have hcv1 : ∀ cp : Nat, (convert 22 9 (.slice (some ⟨gg, off + k, none⟩) 1 cp)).run Tryz.prog wr = .ok (.string (str [c])) wr := fun cp => conv_bytes wr gg (off + k) cp [c] (fun i b hi => by
        cases i with
        | zero => injection hi with hi; subst hi; exact hcell
        | succ i => cases hi) 1 rfl
      have hcvD : ∀ cp a : Nat, (convert 22 9 (.slice (some ⟨gg, off + k, none⟩) 1 cp)).run Tryz.prog (wr.drewN a) = .ok (.string (str [c])) (wr.drewN a) := fun cp a => conv_bytes (wr.drewN a) gg (off + k) cp [c] (fun i b hi => by
        cases i with
        | zero => injection hi with hi; subst hi; exact hcell
        | succ i => cases hi) 1 rfl
      clear hc
      obtain ⟨C, hC⟩ : ∃ C : Int, (c.toNat : Int) = C := ⟨_, rfl⟩
      rw [hC] at hcell
      have HC := Lib.hid hC
      have hC0 : 0 ≤ C := by omega
      have hC1 : C ≤ 255 := by have := c.toNat_lt; omega
      obtain ⟨X, hX⟩ : ∃ X, str [c] = X := ⟨_, rfl⟩
      have hX8 : (X.size : Int) ≤ 8388608 := by rw [← hX, str_size]; simp
      rw [hX] at hcv1 hcvD
      have HX := Lib.hid hX
      have huc : ∀ d : UInt8, C = (d.toNat : Int) → c = d := fun d e => UInt8.toNat_inj.1 (by have := HC.out; omega)
      have HUC := Lib.hid huc
      clear hC hX huc
      cases nn with
      | true =>
        by_cases g34 : C = 34
        · have hh := HUC.out 34 (by rw [g34]; rfl)
          subst g34
          obtain ⟨SB2, hSB⟩ : ∃ Y, SB ++ X = Y := ⟨_, rfl⟩
          have HQ2 : Hid (∃ S, SB2 = str S ∧ BkAt (bK z) L (k + 1) false S) := by
            obtain ⟨S, e1, e2⟩ := HQ.out
            exact Lib.hid ⟨S ++ [c], by rw [← hSB, e1, ← HX.out, str_app], e2.quo HCC.out hh⟩
          have hS2 : (SB2.size : Int) ≤ 8388608 := by
            obtain ⟨S, e1, e2⟩ := HQ2.out
            have := e2.size
            have := HN.out
            rw [e1, str_size]
            omega
          have HSB := Lib.hid hSB
          clear HX
          go_wp2
          go_roundw
          case rel => exact ⟨k + 1, SB2, false, by omega, by go_num, rfl, rfl, hS2, HQ2, BW⟩
          case measure => simp [intOf]; omega
        by_cases g92 : C = 92
        · have hh := HUC.out 92 (by rw [g92]; rfl)
          subst g92
          obtain ⟨d, hd⟩ : ∃ d, L[k + 1]? = some d := by
            obtain ⟨S, e1, e2⟩ := HQ.out
            obtain ⟨d, hd, _⟩ := e2.esc HCC.out hh
            exact ⟨d, hd⟩
          have hlt3 : k + 1 < N := by rw [← HN.out]; exact (List.getElem?_eq_some_iff.1 hd).1
          have hck2 : (k : Int) + 2 ≤ (cap : Int) := by omega
          have hcel2 := cell_keep BW.out (HB4.out (k + 1) d hd)
          have hcv2 : ∀ cp : Nat, (convert 22 9 (.slice (some ⟨gg, off + k, none⟩) 2 cp)).run Tryz.prog wr = .ok (.string (str [c, d])) wr := fun cp => conv_bytes wr gg (off + k) cp [c, d] (fun i b hi => by
            match i with
            | 0 => injection hi with hi; subst hi; rw [hh]; exact hcell
            | 1 => injection hi with hi; subst hi; exact hcel2
            | i + 2 => cases hi) 2 rfl
          clear hcel2 hcv1 hcvD HX hX8
          obtain ⟨X2, hX2⟩ : ∃ Y, str [c, d] = Y := ⟨_, rfl⟩
          have hX28 : (X2.size : Int) ≤ 8388608 := by rw [← hX2, str_size]; simp
          rw [hX2] at hcv2
          obtain ⟨SB2, hSB⟩ : ∃ Y, SB ++ X2 = Y := ⟨_, rfl⟩
          have HQ2 : Hid (∃ S, SB2 = str S ∧ BkAt (bK z) L (k + 2) true S) := by
            obtain ⟨S, e1, e2⟩ := HQ.out
            obtain ⟨d', hd', e3⟩ := e2.esc HCC.out hh
            rw [hd] at hd'
            injection hd' with hd'
            subst hd'
            exact Lib.hid ⟨S ++ [c, d], by rw [← hSB, e1, ← hX2, str_app], e3⟩
          have hS2 : (SB2.size : Int) ≤ 8388608 := by
            obtain ⟨S, e1, e2⟩ := HQ2.out
            have := e2.size
            have := HN.out
            rw [e1, str_size]
            omega
          clear hX2 hd hh
          go_wp2
          go_roundw
          case rel => exact ⟨k + 2, SB2, true, by omega, by go_num, rfl, rfl, hS2, HQ2, BW⟩
          case measure => simp [intOf]; omega
        have g34b := HUC.out
        have hn34 : c ≠ 34 := fun e => g34 (by rw [← HC.out, e]; rfl)
        have hn92 : c ≠ 92 := fun e => g92 (by rw [← HC.out, e]; rfl)
        have f34 : (C == 34) = false := by rw [beq_eq_false_iff_ne]; intro e; exact g34 e
        have f92 : (C == 92) = false := by rw [beq_eq_false_iff_ne]; intro e; exact g92 e
        obtain ⟨SB2, hSB⟩ : ∃ Y, SB ++ X = Y := ⟨_, rfl⟩
        have HQ2 : Hid (∃ S, SB2 = str S ∧ BkAt (bK z) L (k + 1) true S) := by
          obtain ⟨S, e1, e2⟩ := HQ.out
          exact Lib.hid ⟨S ++ [c], by rw [← hSB, e1, ← HX.out, str_app], e2.inn HCC.out hn34 hn92⟩
        have hS2 : (SB2.size : Int) ≤ 8388608 := by
          obtain ⟨S, e1, e2⟩ := HQ2.out
          have := e2.size
          have := HN.out
          rw [e1, str_size]
          omega
        have HSB := Lib.hid hSB
        clear HX
        clear hn34 hn92 g34b g34 g92
        go_wp2
        go_roundw
        case rel => exact ⟨k + 1, SB2, true, by omega, by go_num, rfl, rfl, hS2, HQ2, BW⟩
        case measure => simp [intOf]; omega
      | false =>
        by_cases g34 : C = 34
        · have hh := HUC.out 34 (by rw [g34]; rfl)
          subst g34
          obtain ⟨SB2, hSB⟩ : ∃ Y, SB ++ X = Y := ⟨_, rfl⟩
          have HQ2 : Hid (∃ S, SB2 = str S ∧ BkAt (bK z) L (k + 1) true S) := by
            obtain ⟨S, e1, e2⟩ := HQ.out
            exact Lib.hid ⟨S ++ [c], by rw [← hSB, e1, ← HX.out, str_app], e2.quo HCC.out hh⟩
          have hS2 : (SB2.size : Int) ≤ 8388608 := by
            obtain ⟨S, e1, e2⟩ := HQ2.out
            have := e2.size
            have := HN.out
            rw [e1, str_size]
            omega
          have HSB := Lib.hid hSB
          clear HX
          go_wp2
          go_roundw
          case rel => exact ⟨k + 1, SB2, true, by omega, by go_num, rfl, rfl, hS2, HQ2, BW⟩
          case measure => simp [intOf]; omega
        by_cases hsg : C = 91 ∨ C = 93 ∨ C = 123 ∨ C = 125 ∨ C = 44 ∨ C = 58
        · have his : isS c = true := by
            rcases hsg with e | e | e | e | e | e
            · rw [HUC.out 91 (by rw [e]; rfl)]; rfl
            · rw [HUC.out 93 (by rw [e]; rfl)]; rfl
            · rw [HUC.out 123 (by rw [e]; rfl)]; rfl
            · rw [HUC.out 125 (by rw [e]; rfl)]; rfl
            · rw [HUC.out 44 (by rw [e]; rfl)]; rfl
            · rw [HUC.out 58 (by rw [e]; rfl)]; rfl
          obtain ⟨kb1, kb2⟩ := bK_at z k
          obtain ⟨q, hq⟩ : ∃ q, bK z k = q := ⟨_, rfl⟩
          rw [hq] at kb1 kb2
          have l1 := ldB_at q kb1
          have l2 := trB_at q kb1
          obtain ⟨A1, hA1⟩ : ∃ Y, str (ldB q) = Y := ⟨_, rfl⟩
          obtain ⟨A2, hA2⟩ : ∃ Y, str (trB q) = Y := ⟨_, rfl⟩
          rw [hA1] at l1; rw [hA2] at l2
          obtain ⟨S1, hS1⟩ : ∃ Y, SB ++ A1 = Y := ⟨_, rfl⟩
          obtain ⟨S2, hSS2⟩ : ∃ Y, S1 ++ X = Y := ⟨_, rfl⟩
          obtain ⟨SB2, hSB⟩ : ∃ Y, S2 ++ A2 = Y := ⟨_, rfl⟩
          have HQ2 : Hid (∃ S, SB2 = str S ∧ BkAt (bK z) L (k + 1) false S) := by
            obtain ⟨S, e1, e2⟩ := HQ.out
            refine Lib.hid ⟨S ++ ldB (bK z k) ++ [c] ++ trB (bK z k), ?_, e2.sgn HCC.out his⟩
            rw [hq, ← hSB, ← hSS2, ← hS1, e1, ← HX.out, ← hA1, ← hA2, str_app, str_app, str_app]
          have hS2 : (SB2.size : Int) ≤ 8388608 := by
            obtain ⟨S, e1, e2⟩ := HQ2.out
            have := e2.size
            have := HN.out
            rw [e1, str_size]
            omega
          have hA18 : (A1.size : Int) ≤ 8388608 := by
            rw [← hA1, str_size]
            unfold ldB
            rw [List.length_take]
            omega
          have hA28 : (A2.size : Int) ≤ 8388608 := by
            rw [← hA2, str_size]
            unfold trB
            rw [List.length_drop]
            simp only [List.length_cons, List.length_nil]
            omega
          have hS18 : (S1.size : Int) ≤ 8388608 := by
            have h9 := congrArg ByteArray.size hSB
            have h8 := congrArg ByteArray.size hSS2
            rw [ByteArray.size_append] at h9 h8
            omega
          have hSS28 : (S2.size : Int) ≤ 8388608 := by
            have h9 := congrArg ByteArray.size hSB
            rw [ByteArray.size_append] at h9
            omega
          have kq0 : (0 : Int) ≤ (q : Int) := by omega
          have kq1 : (q : Int) < 4 := by omega
          clear hA1 hA2 hq his HX g34 kb1
          rcases hsg with e | e | e | e | e | e <;> subst e <;> skip
          all_goals
            go_wp2
            go_quiet (fail)
            go_wp2
            go_roundw
            case rel => exact ⟨k + 1, SB2, false, by omega, by go_num, rfl, rfl, hS2, HQ2, Lib.hid (bdn BW.out _)⟩
            case measure => simp [intOf]; omega
        have his : isS c = false := by
          unfold isS
          have hn : ∀ d : UInt8, C ≠ (d.toNat : Int) → (c == d) = false := fun d hd => by
            rw [beq_eq_false_iff_ne]
            rintro rfl
            exact hd HC.out.symm
          rw [hn 91 (fun e => hsg (by have e : C = 91 := e; omega)), hn 93 (fun e => hsg (by have e : C = 93 := e; omega)), hn 123 (fun e => hsg (by have e : C = 123 := e; omega)), hn 125 (fun e => hsg (by have e : C = 125 := e; omega)), hn 44 (fun e => hsg (by have e : C = 44 := e; omega)), hn 58 (fun e => hsg (by have e : C = 58 := e; omega))]
          rfl
        have hn34 : c ≠ 34 := fun e => g34 (by rw [← HC.out, e]; rfl)
        have f91 : (C == 91) = false := by rw [beq_eq_false_iff_ne]; omega
        have f93 : (C == 93) = false := by rw [beq_eq_false_iff_ne]; omega
        have f123 : (C == 123) = false := by rw [beq_eq_false_iff_ne]; omega
        have f125 : (C == 125) = false := by rw [beq_eq_false_iff_ne]; omega
        have f44 : (C == 44) = false := by rw [beq_eq_false_iff_ne]; omega
        have f58 : (C == 58) = false := by rw [beq_eq_false_iff_ne]; omega
        have f34 : (C == 34) = false := by rw [beq_eq_false_iff_ne]; omega
        obtain ⟨SB2, hSB⟩ : ∃ Y, SB ++ X = Y := ⟨_, rfl⟩
        have HQ2 : Hid (∃ S, SB2 = str S ∧ BkAt (bK z) L (k + 1) false S) := by
          obtain ⟨S, e1, e2⟩ := HQ.out
          exact Lib.hid ⟨S ++ [c], by rw [← hSB, e1, ← HX.out, str_app], e2.out HCC.out his hn34⟩
        have hS2 : (SB2.size : Int) ≤ 8388608 := by
          obtain ⟨S, e1, e2⟩ := HQ2.out
          have := e2.size
          have := HN.out
          rw [e1, str_size]
          omega
        have HSB := Lib.hid hSB
        clear HX
        clear hn34 his g34 hsg
        obtain ⟨bz, hbz⟩ : ∃ b, (C == 92) = b := ⟨_, rfl⟩
        cases bz with
        | true =>
          go_wp2
          go_roundw
          case rel => exact ⟨k + 1, SB2, false, by omega, by go_num, rfl, rfl, hS2, HQ2, BW⟩
          case measure => simp [intOf]; omega
        | false =>
          go_wp2
          go_roundw
          case rel => exact ⟨k + 1, SB2, false, by omega, by go_num, rfl, rfl, hS2, HQ2, BW⟩
          case measure => simp [intOf]; omega
    · have hge : ¬ (k : Int) < (N : Int) := by omega
      have HE : Hid (SB = str (blk (bK z) 0 false false L)) := by
        obtain ⟨S, e1, e2⟩ := HQ.out
        exact Lib.hid (by rw [e1, e2.ended (by rw [HN.out]; omega)])
      have B5 := Lib.hid (btr B4.out BW.out)
      have R5 := Lib.hid (Row10.keep BW.out R4.out)
      have HB5 := Lib.hid (HB4.out.keep BW.out)
      clear HQ HB4 R4 B4 BW hlt
      obtain ⟨p0, p1, p2, p3, p4, p5, p6, p7, p8, p9⟩ := R5.out.parts
      by_cases hlong : 60000 < SB.size
      · have h60 : (60000 : Int) < (SB.size : Int) := by omega
        go_wp2_with (go_at_call 5; ((with_reducible refine (told7_true _ (tabs_on HT.out B5.out)).mono ?_); rintro e w6 ⟨rfl, hb6⟩))
        go_ret
        exact ⟨rfl, btr B5.out hb6⟩
      have h60 : ¬ (60000 : Int) < (SB.size : Int) := by omega
      have hbl : (blk (bK z) 0 false false L).length ≤ 60000 := by have h9 := HE.out; rw [h9, str_size] at hlong; omega
      have hNl : N ≤ 60000 := by have := (blk_len (bK z) L 0 false false).1; rw [HN.out] at this; omega
      have DD2 := Lib.hid (D2.out hbl)
      have DD3 := Lib.hid (D3.out hNl)
      clear hbl hNl hlong
      -- the text with blanks
      obtain ⟨SX, hSX⟩ : ∃ Y, ⟨#[10]⟩ ++ SB = Y := ⟨_, rfl⟩
      obtain ⟨SY, hSY⟩ : ∃ Y, SX ++ ⟨#[9]⟩ = Y := ⟨_, rfl⟩
      have hSX8 : (SX.size : Int) ≤ 8388608 := by rw [← hSX, ByteArray.size_append]; have : (⟨#[10]⟩ : ByteArray).size = 1 := rfl; omega
      have hSY8 : (SY.size : Int) ≤ 8388608 := by rw [← hSY, ← hSX, ByteArray.size_append, ByteArray.size_append]; have : (⟨#[10]⟩ : ByteArray).size = 1 := rfl; have : (⟨#[9]⟩ : ByteArray).size = 1 := rfl; omega
      have s10 : ((⟨#[10]⟩ : ByteArray).size : Int) ≤ 8388608 := by decide
      have s9 : ((⟨#[9]⟩ : ByteArray).size : Int) ≤ 8388608 := by decide
      have s93 : ((⟨#[93]⟩ : ByteArray).size : Int) ≤ 8388608 := by decide
      have hTX : str (10 :: (blk (bK z) 0 false false L ++ [9])) = SY := by
        rw [← hSY, ← hSX, HE.out, show (⟨#[10]⟩ : ByteArray) = str [10] from rfl, show (⟨#[9]⟩ : ByteArray) = str [9] from rfl, str_app, str_app]
        rfl
      have hc1 := Lib.run_convert_string_bytes (P := Tryz.prog) wr 9 22 5 SY (u := .string) (by kernel_rfl) (by kernel_rfl) (by kernel_rfl)
      have HY1 := Lib.hid (by_world wr (10 :: (blk (bK z) 0 false false L ++ [9])))
      have HZ1 := Lib.hid (below_bytes wr 5 SY)
      rw [hTX] at HY1
      obtain ⟨cp1, hcp1⟩ : ∃ cp, grownCap wr SY.size 0 5 = cp := ⟨_, rfl⟩
      obtain ⟨W1, hW1⟩ : ∃ W1, Lib.bytesWorld wr 5 SY = W1 := ⟨_, rfl⟩
      rw [hcp1, hW1] at hc1
      rw [hW1] at HY1 HZ1
      clear hcp1 hW1
      have KD1 := Lib.hid (DD2.out W1 wr.heap.size 0 cp1 (btr B5.out HZ1.out) HY1.out)
      rw [hTX] at KD1
      clear HY1 hTX
      go_wp2_with fail
      ((with_reducible refine (KD1.out).mono ?_); rintro e w6 ⟨kd2, bg2, y2, p2a, p2b, p2c, bi2, s2, la2, n2, lc2, ka2, m2, kc2, rfl, hb6, KS1⟩)
      have B6 := Lib.hid (bal (btr (btr B5.out HZ1.out) hb6) (.cells #[.int .i64 kd2, .bool bg2, .int .u64 y2, .int .u64 p2a, .int .u64 p2b, .int .u64 p2c, .int .u64 bi2, .string s2, .slice la2 n2 lc2, .slice ka2 m2 kc2] 32))
      have R6 := Lib.hid ((Row10.keep hb6 (Row10.keep HZ1.out R5.out)).alloc (.cells #[.int .i64 kd2, .bool bg2, .int .u64 y2, .int .u64 p2a, .int .u64 p2b, .int .u64 p2c, .int .u64 bi2, .string s2, .slice la2 n2 lc2, .slice ka2 m2 kc2] 32))
      have Q6 := Lib.hid (Row10.new w6 (.int .i64 kd2) (.bool bg2) (.int .u64 y2) (.int .u64 p2a) (.int .u64 p2b) (.int .u64 p2c) (.int .u64 bi2) (.string s2) (.slice la2 n2 lc2) (.slice ka2 m2 kc2))
      have HB6 := Lib.hid (((HB5.out.keep HZ1.out).keep hb6).keep (bal (Below.refl _ w6) (.cells #[.int .i64 kd2, .bool bg2, .int .u64 y2, .int .u64 p2a, .int .u64 p2b, .int .u64 p2c, .int .u64 bi2, .string s2, .slice la2 n2 lc2, .slice ka2 m2 kc2] 32)))
      have KS6 : Hid (∀ W2, Below (w6.alloc (.cells #[.int .i64 kd2, .bool bg2, .int .u64 y2, .int .u64 p2a, .int .u64 p2b, .int .u64 p2c, .int .u64 bi2, .string s2, .slice la2 n2 lc2, .slice ka2 m2 kc2] 32)).heap.size (w6.alloc (.cells #[.int .i64 kd2, .bool bg2, .int .u64 y2, .int .u64 p2a, .int .u64 p2b, .int .u64 p2c, .int .u64 bi2, .string s2, .slice la2 n2 lc2, .slice ka2 m2 kc2] 32)) W2 → Calls Tryz.prog 8 #[V10 kd g x0 x1 x2 x3 bi s la n lc ka m kc, V10 kd2 bg2 y2 p2a p2b p2c bi2 s2 la2 n2 lc2 ka2 m2 kc2] W2 fun e w2 => e = .returned (.bool true) ∧ Below W2.heap.size W2 w2) := Lib.hid (fun W2 h2 => KS1.out W2 (btr (bal (Below.refl _ w6) (.cells #[.int .i64 kd2, .bool bg2, .int .u64 y2, .int .u64 p2a, .int .u64 p2b, .int .u64 p2c, .int .u64 bi2, .string s2, .slice la2 n2 lc2, .slice ka2 m2 kc2] 32)) h2))
      have hcvL := conv_bytes (w6.alloc (.cells #[.int .i64 kd2, .bool bg2, .int .u64 y2, .int .u64 p2a, .int .u64 p2b, .int .u64 p2c, .int .u64 bi2, .string s2, .slice la2 n2 lc2, .slice ka2 m2 kc2] 32)) gg off cap L HB6.out N HN.out
      obtain ⟨SL, hSL⟩ : ∃ Y, str L = Y := ⟨_, rfl⟩
      rw [hSL] at hcvL
      obtain ⟨SZ, hSZ⟩ : ∃ Y, SL ++ ⟨#[93]⟩ = Y := ⟨_, rfl⟩
      have hSL8 : (SL.size : Int) ≤ 8388608 := by rw [← hSL, HS.out]; omega
      have hSZ8 : (SZ.size : Int) ≤ 8388608 := by rw [← hSZ, ByteArray.size_append, ← hSL, HS.out]; have : (⟨#[93]⟩ : ByteArray).size = 1 := rfl; omega
      have hTX : str (L ++ [93]) = SZ := by rw [← hSZ, ← hSL, show (⟨#[93]⟩ : ByteArray) = str [93] from rfl, str_app]
      have hc2 := Lib.run_convert_string_bytes (P := Tryz.prog) (w6.alloc (.cells #[.int .i64 kd2, .bool bg2, .int .u64 y2, .int .u64 p2a, .int .u64 p2b, .int .u64 p2c, .int .u64 bi2, .string s2, .slice la2 n2 lc2, .slice ka2 m2 kc2] 32)) 9 22 5 SZ (u := .string) (by kernel_rfl) (by kernel_rfl) (by kernel_rfl)
      have HY2 := Lib.hid (by_world (w6.alloc (.cells #[.int .i64 kd2, .bool bg2, .int .u64 y2, .int .u64 p2a, .int .u64 p2b, .int .u64 p2c, .int .u64 bi2, .string s2, .slice la2 n2 lc2, .slice ka2 m2 kc2] 32)) (L ++ [93]))
      have HZ2 := Lib.hid (below_bytes (w6.alloc (.cells #[.int .i64 kd2, .bool bg2, .int .u64 y2, .int .u64 p2a, .int .u64 p2b, .int .u64 p2c, .int .u64 bi2, .string s2, .slice la2 n2 lc2, .slice ka2 m2 kc2] 32)) 5 SZ)
      rw [hTX] at HY2
      obtain ⟨cp2, hcp2⟩ : ∃ cp, grownCap (w6.alloc (.cells #[.int .i64 kd2, .bool bg2, .int .u64 y2, .int .u64 p2a, .int .u64 p2b, .int .u64 p2c, .int .u64 bi2, .string s2, .slice la2 n2 lc2, .slice ka2 m2 kc2] 32)) SZ.size 0 5 = cp := ⟨_, rfl⟩
      obtain ⟨W2, hW2⟩ : ∃ W2, Lib.bytesWorld (w6.alloc (.cells #[.int .i64 kd2, .bool bg2, .int .u64 y2, .int .u64 p2a, .int .u64 p2b, .int .u64 p2c, .int .u64 bi2, .string s2, .slice la2 n2 lc2, .slice ka2 m2 kc2] 32)) 5 SZ = W2 := ⟨_, rfl⟩
      rw [hcp2, hW2] at hc2
      rw [hW2] at HY2 HZ2
      clear hcp2 hW2
      have KD2 := Lib.hid (DD3.out W2 (w6.alloc (.cells #[.int .i64 kd2, .bool bg2, .int .u64 y2, .int .u64 p2a, .int .u64 p2b, .int .u64 p2c, .int .u64 bi2, .string s2, .slice la2 n2 lc2, .slice ka2 m2 kc2] 32)).heap.size 0 cp2 (btr B6.out HZ2.out) HY2.out)
      rw [hTX] at KD2
      clear HY2 hTX
      have hz6 : (w6.alloc (.cells #[.int .i64 kd2, .bool bg2, .int .u64 y2, .int .u64 p2a, .int .u64 p2b, .int .u64 p2c, .int .u64 bi2, .string s2, .slice la2 n2 lc2, .slice ka2 m2 kc2] 32)).heap.size = w6.heap.size + 1 := by simp
      rw [hz6] at KD2
      go_wp2_with fail
      ((with_reducible refine (KD2.out).mono ?_); rintro e w7 ⟨kd3, bg3, y3, p3a, p3b, p3c, bi3, s3, la3, n3, lc3, ka3, m3, kc3, E3, rfl, hE3, hb7⟩)
      have hE3 : E3 = 3 := hE3
      subst hE3
      have b67 := Lib.hid (bal (btr HZ2.out hb7) (.cells #[.int .i64 kd3, .bool bg3, .int .u64 y3, .int .u64 p3a, .int .u64 p3b, .int .u64 p3c, .int .u64 bi3, .string s3, .slice la3 n3 lc3, .slice ka3 m3 kc3] 32))
      have B7 := Lib.hid (bal (btr (btr B6.out HZ2.out) hb7) (.cells #[.int .i64 kd3, .bool bg3, .int .u64 y3, .int .u64 p3a, .int .u64 p3b, .int .u64 p3c, .int .u64 bi3, .string s3, .slice la3 n3 lc3, .slice ka3 m3 kc3] 32))
      have R7 := Lib.hid ((Row10.keep hb7 (Row10.keep HZ2.out R6.out)).alloc (.cells #[.int .i64 kd3, .bool bg3, .int .u64 y3, .int .u64 p3a, .int .u64 p3b, .int .u64 p3c, .int .u64 bi3, .string s3, .slice la3 n3 lc3, .slice ka3 m3 kc3] 32))
      have Q7 := Lib.hid ((Row10.keep hb7 (Row10.keep HZ2.out Q6.out)).alloc (.cells #[.int .i64 kd3, .bool bg3, .int .u64 y3, .int .u64 p3a, .int .u64 p3b, .int .u64 p3c, .int .u64 bi3, .string s3, .slice la3 n3 lc3, .slice ka3 m3 kc3] 32))
      have HB7 := Lib.hid (((HB6.out.keep HZ2.out).keep hb7).keep (bal (Below.refl _ w7) (.cells #[.int .i64 kd3, .bool bg3, .int .u64 y3, .int .u64 p3a, .int .u64 p3b, .int .u64 p3c, .int .u64 bi3, .string s3, .slice la3 n3 lc3, .slice ka3 m3 kc3] 32)))
      have KS7 := Lib.hid (fun W2 (h2 : Below (w7.alloc (.cells #[.int .i64 kd3, .bool bg3, .int .u64 y3, .int .u64 p3a, .int .u64 p3b, .int .u64 p3c, .int .u64 bi3, .string s3, .slice la3 n3 lc3, .slice ka3 m3 kc3] 32)).heap.size (w7.alloc (.cells #[.int .i64 kd3, .bool bg3, .int .u64 y3, .int .u64 p3a, .int .u64 p3b, .int .u64 p3c, .int .u64 bi3, .string s3, .slice la3 n3 lc3, .slice ka3 m3 kc3] 32)) W2) => KS6.out W2 (btr b67.out h2))
      clear B6 R6 Q6 HB6 KS6 b67 hb7 KD2 hc2 HZ2
      obtain ⟨p0, p1, p2, p3, p4, p5, p6, p7, p8, p9⟩ := R7.out.parts
      obtain ⟨M, hMN⟩ : ∃ M : Nat, N = M + 1 := ⟨N - 1, by omega⟩
      have hM : (N : Int) - 1 = (M : Int) := by omega
      have hMc : (M : Int) ≤ (cap : Int) := by omega
      have hMc2 : M ≤ cap := by omega
      have HM : Hid ((str L.dropLast).size = M) := Lib.hid (by rw [str_size, List.length_dropLast, HN.out]; omega)
      have KD4 := D4.out (w7.alloc (.cells #[.int .i64 kd3, .bool bg3, .int .u64 y3, .int .u64 p3a, .int .u64 p3b, .int .u64 p3c, .int .u64 bi3, .string s3, .slice la3 n3 lc3, .slice ka3 m3 kc3] 32)) gg off cap B7.out (bytes_drop HB7.out)
      rw [HM.out] at KD4
      have KD3 := Lib.hid KD4
      clear KD4 hMN hN0
      by_cases k3 : kd = 3
      · subst k3
        go_wp2_with fail
        ((with_reducible refine (KD3.out).mono ?_); rintro e w8 ⟨kd4, bg4, y4, p4a, p4b, p4c, bi4, s4, la4, n4, lc4, ka4, m4, kc4, E4, rfl, hE4, hb8⟩)
        have b78 := Lib.hid (bal hb8 (.cells #[.int .i64 kd4, .bool bg4, .int .u64 y4, .int .u64 p4a, .int .u64 p4b, .int .u64 p4c, .int .u64 bi4, .string s4, .slice la4 n4 lc4, .slice ka4 m4 kc4] 32))
        have B8 := Lib.hid (bal (btr B7.out hb8) (.cells #[.int .i64 kd4, .bool bg4, .int .u64 y4, .int .u64 p4a, .int .u64 p4b, .int .u64 p4c, .int .u64 bi4, .string s4, .slice la4 n4 lc4, .slice ka4 m4 kc4] 32))
        have R8 := Lib.hid ((Row10.keep hb8 R7.out).alloc (.cells #[.int .i64 kd4, .bool bg4, .int .u64 y4, .int .u64 p4a, .int .u64 p4b, .int .u64 p4c, .int .u64 bi4, .string s4, .slice la4 n4 lc4, .slice ka4 m4 kc4] 32))
        have Q8 := Lib.hid ((Row10.keep hb8 Q7.out).alloc (.cells #[.int .i64 kd4, .bool bg4, .int .u64 y4, .int .u64 p4a, .int .u64 p4b, .int .u64 p4c, .int .u64 bi4, .string s4, .slice la4 n4 lc4, .slice ka4 m4 kc4] 32))
        have KS8 := Lib.hid (fun W2 (h2 : Below (w8.alloc (.cells #[.int .i64 kd4, .bool bg4, .int .u64 y4, .int .u64 p4a, .int .u64 p4b, .int .u64 p4c, .int .u64 bi4, .string s4, .slice la4 n4 lc4, .slice ka4 m4 kc4] 32)).heap.size (w8.alloc (.cells #[.int .i64 kd4, .bool bg4, .int .u64 y4, .int .u64 p4a, .int .u64 p4b, .int .u64 p4c, .int .u64 bi4, .string s4, .slice la4 n4 lc4, .slice ka4 m4 kc4] 32)) W2) => KS7.out W2 (btr b78.out h2))
        have KT := Lib.hid (told7_true (w8.alloc (.cells #[.int .i64 kd4, .bool bg4, .int .u64 y4, .int .u64 p4a, .int .u64 p4b, .int .u64 p4c, .int .u64 bi4, .string s4, .slice la4 n4 lc4, .slice ka4 m4 kc4] 32)) (tabs_on HT.out B8.out))
        clear B7 R7 Q7 KS7 b78 hb8 KD3
        obtain ⟨be, hbe⟩ : ∃ b, (E4 == 3) = b := ⟨_, rfl⟩
        cases be with
        | true =>
          go_wp2_with (first
            | (go_at_call 5; ((with_reducible refine (KT.out).mono ?_); rintro e w9 ⟨rfl, hb9⟩; have B9 := Lib.hid (btr B8.out hb9); have R9 := Lib.hid (Row10.keep hb9 R8.out); have Q9 := Lib.hid (Row10.keep hb9 Q8.out); have KS9 := Lib.hid (KS8.out w9 hb9); obtain ⟨q0, q1, q2, q3, q4, q5, q6, q7, q8, q9⟩ := R9.out.parts; obtain ⟨t0, t1, t2, t3, t4, t5, t6, t7, t8, t9⟩ := Q9.out.parts; clear hb9))
            | (go_at_call 8; ((with_reducible refine (KS9.out).mono ?_); rintro e w10 ⟨rfl, hb10⟩; have B10 := Lib.hid (btr B9.out hb10); have R10 := Lib.hid (Row10.keep hb10 R9.out); obtain ⟨r0, r1, r2, r3, r4, r5, r6, r7, r8, r9⟩ := R10.out.parts; clear hb10)))
          go_ret
          exact ⟨rfl, B10.out⟩
        | false =>
          go_wp2_with (first
            | (go_at_call 5; ((with_reducible refine (KT.out).mono ?_); rintro e w9 ⟨rfl, hb9⟩; have B9 := Lib.hid (btr B8.out hb9); have R9 := Lib.hid (Row10.keep hb9 R8.out); have Q9 := Lib.hid (Row10.keep hb9 Q8.out); have KS9 := Lib.hid (KS8.out w9 hb9); obtain ⟨q0, q1, q2, q3, q4, q5, q6, q7, q8, q9⟩ := R9.out.parts; obtain ⟨t0, t1, t2, t3, t4, t5, t6, t7, t8, t9⟩ := Q9.out.parts; clear hb9))
            | (go_at_call 8; ((with_reducible refine (KS9.out).mono ?_); rintro e w10 ⟨rfl, hb10⟩; have B10 := Lib.hid (btr B9.out hb10); have R10 := Lib.hid (Row10.keep hb10 R9.out); obtain ⟨r0, r1, r2, r3, r4, r5, r6, r7, r8, r9⟩ := R10.out.parts; clear hb10)))
          go_ret
          exact ⟨rfl, B10.out⟩
      by_cases k4 : kd = 4
      · subst k4
        go_wp2_with fail
        ((with_reducible refine (KD3.out).mono ?_); rintro e w8 ⟨kd4, bg4, y4, p4a, p4b, p4c, bi4, s4, la4, n4, lc4, ka4, m4, kc4, E4, rfl, hE4, hb8⟩)
        have b78 := Lib.hid (bal hb8 (.cells #[.int .i64 kd4, .bool bg4, .int .u64 y4, .int .u64 p4a, .int .u64 p4b, .int .u64 p4c, .int .u64 bi4, .string s4, .slice la4 n4 lc4, .slice ka4 m4 kc4] 32))
        have B8 := Lib.hid (bal (btr B7.out hb8) (.cells #[.int .i64 kd4, .bool bg4, .int .u64 y4, .int .u64 p4a, .int .u64 p4b, .int .u64 p4c, .int .u64 bi4, .string s4, .slice la4 n4 lc4, .slice ka4 m4 kc4] 32))
        have R8 := Lib.hid ((Row10.keep hb8 R7.out).alloc (.cells #[.int .i64 kd4, .bool bg4, .int .u64 y4, .int .u64 p4a, .int .u64 p4b, .int .u64 p4c, .int .u64 bi4, .string s4, .slice la4 n4 lc4, .slice ka4 m4 kc4] 32))
        have Q8 := Lib.hid ((Row10.keep hb8 Q7.out).alloc (.cells #[.int .i64 kd4, .bool bg4, .int .u64 y4, .int .u64 p4a, .int .u64 p4b, .int .u64 p4c, .int .u64 bi4, .string s4, .slice la4 n4 lc4, .slice ka4 m4 kc4] 32))
        have KS8 := Lib.hid (fun W2 (h2 : Below (w8.alloc (.cells #[.int .i64 kd4, .bool bg4, .int .u64 y4, .int .u64 p4a, .int .u64 p4b, .int .u64 p4c, .int .u64 bi4, .string s4, .slice la4 n4 lc4, .slice ka4 m4 kc4] 32)).heap.size (w8.alloc (.cells #[.int .i64 kd4, .bool bg4, .int .u64 y4, .int .u64 p4a, .int .u64 p4b, .int .u64 p4c, .int .u64 bi4, .string s4, .slice la4 n4 lc4, .slice ka4 m4 kc4] 32)) W2) => KS7.out W2 (btr b78.out h2))
        have KT := Lib.hid (told7_true (w8.alloc (.cells #[.int .i64 kd4, .bool bg4, .int .u64 y4, .int .u64 p4a, .int .u64 p4b, .int .u64 p4c, .int .u64 bi4, .string s4, .slice la4 n4 lc4, .slice ka4 m4 kc4] 32)) (tabs_on HT.out B8.out))
        clear B7 R7 Q7 KS7 b78 hb8 KD3
        obtain ⟨be, hbe⟩ : ∃ b, (E4 == 3) = b := ⟨_, rfl⟩
        cases be with
        | true =>
          go_wp2_with (first
            | (go_at_call 5; ((with_reducible refine (KT.out).mono ?_); rintro e w9 ⟨rfl, hb9⟩; have B9 := Lib.hid (btr B8.out hb9); have R9 := Lib.hid (Row10.keep hb9 R8.out); have Q9 := Lib.hid (Row10.keep hb9 Q8.out); have KS9 := Lib.hid (KS8.out w9 hb9); obtain ⟨q0, q1, q2, q3, q4, q5, q6, q7, q8, q9⟩ := R9.out.parts; obtain ⟨t0, t1, t2, t3, t4, t5, t6, t7, t8, t9⟩ := Q9.out.parts; clear hb9))
            | (go_at_call 8; ((with_reducible refine (KS9.out).mono ?_); rintro e w10 ⟨rfl, hb10⟩; have B10 := Lib.hid (btr B9.out hb10); have R10 := Lib.hid (Row10.keep hb10 R9.out); obtain ⟨r0, r1, r2, r3, r4, r5, r6, r7, r8, r9⟩ := R10.out.parts; clear hb10)))
          go_ret
          exact ⟨rfl, B10.out⟩
        | false =>
          go_wp2_with (first
            | (go_at_call 5; ((with_reducible refine (KT.out).mono ?_); rintro e w9 ⟨rfl, hb9⟩; have B9 := Lib.hid (btr B8.out hb9); have R9 := Lib.hid (Row10.keep hb9 R8.out); have Q9 := Lib.hid (Row10.keep hb9 Q8.out); have KS9 := Lib.hid (KS8.out w9 hb9); obtain ⟨q0, q1, q2, q3, q4, q5, q6, q7, q8, q9⟩ := R9.out.parts; obtain ⟨t0, t1, t2, t3, t4, t5, t6, t7, t8, t9⟩ := Q9.out.parts; clear hb9))
            | (go_at_call 8; ((with_reducible refine (KS9.out).mono ?_); rintro e w10 ⟨rfl, hb10⟩; have B10 := Lib.hid (btr B9.out hb10); have R10 := Lib.hid (Row10.keep hb10 R9.out); obtain ⟨r0, r1, r2, r3, r4, r5, r6, r7, r8, r9⟩ := R10.out.parts; clear hb10)))
          go_ret
          exact ⟨rfl, B10.out⟩
      have f3 : (kd == 3) = false := by rw [beq_eq_false_iff_ne]; exact k3
      have f4 : (kd == 4) = false := by rw [beq_eq_false_iff_ne]; exact k4
      go_wp2_with fail
      ((with_reducible refine (KD3.out).mono ?_); rintro e w8 ⟨kd4, bg4, y4, p4a, p4b, p4c, bi4, s4, la4, n4, lc4, ka4, m4, kc4, E4, rfl, hE4, hb8⟩)
      have b78 := Lib.hid (bal hb8 (.cells #[.int .i64 kd4, .bool bg4, .int .u64 y4, .int .u64 p4a, .int .u64 p4b, .int .u64 p4c, .int .u64 bi4, .string s4, .slice la4 n4 lc4, .slice ka4 m4 kc4] 32))
      have B8 := Lib.hid (bal (btr B7.out hb8) (.cells #[.int .i64 kd4, .bool bg4, .int .u64 y4, .int .u64 p4a, .int .u64 p4b, .int .u64 p4c, .int .u64 bi4, .string s4, .slice la4 n4 lc4, .slice ka4 m4 kc4] 32))
      have R8 := Lib.hid ((Row10.keep hb8 R7.out).alloc (.cells #[.int .i64 kd4, .bool bg4, .int .u64 y4, .int .u64 p4a, .int .u64 p4b, .int .u64 p4c, .int .u64 bi4, .string s4, .slice la4 n4 lc4, .slice ka4 m4 kc4] 32))
      have Q8 := Lib.hid ((Row10.keep hb8 Q7.out).alloc (.cells #[.int .i64 kd4, .bool bg4, .int .u64 y4, .int .u64 p4a, .int .u64 p4b, .int .u64 p4c, .int .u64 bi4, .string s4, .slice la4 n4 lc4, .slice ka4 m4 kc4] 32))
      have KS8 := Lib.hid (fun W2 (h2 : Below (w8.alloc (.cells #[.int .i64 kd4, .bool bg4, .int .u64 y4, .int .u64 p4a, .int .u64 p4b, .int .u64 p4c, .int .u64 bi4, .string s4, .slice la4 n4 lc4, .slice ka4 m4 kc4] 32)).heap.size (w8.alloc (.cells #[.int .i64 kd4, .bool bg4, .int .u64 y4, .int .u64 p4a, .int .u64 p4b, .int .u64 p4c, .int .u64 bi4, .string s4, .slice la4 n4 lc4, .slice ka4 m4 kc4] 32)) W2) => KS7.out W2 (btr b78.out h2))
      have KT := Lib.hid (told7_true (w8.alloc (.cells #[.int .i64 kd4, .bool bg4, .int .u64 y4, .int .u64 p4a, .int .u64 p4b, .int .u64 p4c, .int .u64 bi4, .string s4, .slice la4 n4 lc4, .slice ka4 m4 kc4] 32)) (tabs_on HT.out B8.out))
      clear B7 R7 Q7 KS7 b78 hb8 KD3
      have hE4 : E4 = 3 := by
        rcases hE4 with h | h | h
        · exact absurd h k3
        · exact absurd h k4
        · exact h
      subst hE4
      clear k3 k4
      go_wp2_with (first
        | (go_at_call 5; ((with_reducible refine (KT.out).mono ?_); rintro e w9 ⟨rfl, hb9⟩; have B9 := Lib.hid (btr B8.out hb9); have R9 := Lib.hid (Row10.keep hb9 R8.out); have Q9 := Lib.hid (Row10.keep hb9 Q8.out); have KS9 := Lib.hid (KS8.out w9 hb9); obtain ⟨q0, q1, q2, q3, q4, q5, q6, q7, q8, q9⟩ := R9.out.parts; obtain ⟨t0, t1, t2, t3, t4, t5, t6, t7, t8, t9⟩ := Q9.out.parts; clear hb9))
        | (go_at_call 8; ((with_reducible refine (KS9.out).mono ?_); rintro e w10 ⟨rfl, hb10⟩; have B10 := Lib.hid (btr B9.out hb10); have R10 := Lib.hid (Row10.keep hb10 R9.out); obtain ⟨r0, r1, r2, r3, r4, r5, r6, r7, r8, r9⟩ := R10.out.parts; clear hb10)))
      go_ret
      exact ⟨rfl, B10.out⟩

theorem every_wr {W : World} : ∀ {T : VT}, T.In W → T.Every Wr := by
  intro T
  induction T using VT.ind with
  | h o kids ih =>
    intro h
    exact .mk o kids ⟨h.wf.2.1, h.wf.2.2.1.1, h.wf.2.2.1.2⟩ fun t ht => ih t ht (h.mem ht)
theorem small_er : ∀ {T : VT}, T.Every SmallO → (er T).Every SmallO := by
  intro T
  induction T using VT.ind with
  | h o kids ih =>
    intro h
    rw [er_mk]
    refine .mk _ _ h.own (fun t ht => ?_)
    obtain ⟨u, hu, rfl⟩ := List.mem_map.1 ht
    exact ih u hu (h.mem hu)
theorem dsame_of (T : VT) (w : World) (hT : Tabs w) (hI : T.In w) (hm : mayN T = 0) (hn : T.nodes ≤ 10000) (hs : T.Every SmallO) (l r : List UInt8) (hl : l.length ≤ 65536) (hv : JX l (er T) r false false) (hr : jskip r = []) : DSame w l T.val := by
  intro W gg off cap hW hB
  refine (jdecX_good l hl gg off cap _ (str_size _).symm W hB (tb_on hT.2 hW) (er T) r hr (by rw [er_nodes]; exact hn) (small_er hs) hv (by rw [er_may]; exact hm)).mono ?_
  rintro e w' ⟨o, kids, he, hI2, _, hE, hb⟩
  refine ⟨_, _, _, _, _, _, _, _, _, _, _, _, _, _, he, hb, Lib.hid (fun W2 h2 => ?_)⟩
  have := rsame T (.mk o kids) W2 (hI.keep (btr (btr hW hb) h2)) (hI2.keep h2)
  rw [sameT_er T (.mk o kids) hE.symm] at this
  exact this
/-- The law, for any value. -/
theorem jback_any (T : VT) (z : Int) (w : World) (hT : Tabs w) (hI : T.In w) :
    Calls Tryz.prog 4 #[T.val, .int .i64 z] w fun e w' => e = .returned (.bool true) ∧ Below w.heap.size w w' := by
  have k1 := fun W (hb : Below w.heap.size w W) => vfew T W (hI.keep hb)
  cases hq : fewOk T with
  | false =>
    rw [hq] at k1
    exact jback_told _ _ _ _ _ _ _ _ _ _ _ _ _ _ z w hT k1
  | true =>
    rw [hq] at k1
    obtain ⟨q1, q2, q3⟩ := few_q hq hI hT.2
    have k2 := fun W (hb : Below w.heap.size w W) => jenc_any T (by omega) W (q1.keep hb) (tabs_on hT hb)
    by_cases h0 : mayN T = 0
    · cases hj : hasT notJsonT T with
      | true =>
        refine jback_none _ _ _ _ _ _ _ _ _ _ _ _ _ _ z w hT 5 rfl k1 (fun W hb => (k2 W hb).mono ?_)
        rintro e w' ⟨hE, hb'⟩
        rcases hE with ⟨m0, _⟩ | ⟨_, _, rfl⟩ | ⟨_, mj, _⟩ | ⟨_, mj, _⟩
        · exact absurd h0 m0
        · exact ⟨rfl, hb'⟩
        · rw [hj] at mj; cases mj
        · rw [hj] at mj; cases mj
      | false =>
        by_cases h1 : (jencT T).length ≤ 65536
        · have hwr : hasT wrongT T = false := (gd_of hI h0).1.2.1
          have hEv : T.Every Wr := every_wr hI
          refine jback_core _ _ _ _ _ _ _ _ _ _ _ _ _ _ z w hT (jencT T) _ rfl h1 (jencT_pos T) k1 (fun W hb => (jenc_cap T (by omega) W (q1.keep hb) (tabs_on hT hb) h0 hj h1).mono ?_) (stB_end (fun i => (bK_at z i).1) (bok_all (bK z) T hwr hj hEv)) ?_ ?_ ?_ ?_
          · rintro e w' ⟨gg, cap, rfl, hB, c1, c2, hb'⟩
            exact ⟨gg, 0, cap, rfl, hB, c1, c2, hb'⟩
          · have hx := jx_enc T hwr hj hEv [] Stp.nil
            rw [List.append_nil] at hx
            exact dsame_of T w hT hI h0 (by omega) q1.small (jencT T) [] h1 hx rfl
          · intro hle
            obtain ⟨B, D, t, c, g1, g2, _, _, _, g6⟩ := bok_all (bK z) T hwr hj hEv 0
            have e0 := g1 []
            rw [List.append_nil] at e0
            have e0 : blk (bK z) 0 false false (jencT T) = B := e0.trans (List.append_nil B)
            rw [e0] at hle ⊢
            refine dsame_of T w hT hI h0 (by omega) q1.small (10 :: (B ++ [9])) (D ++ [9]) ?_ (jx_eq ?_ (g6 [9] (Stp.of (by decide)))) ?_
            · rw [List.length_cons, List.length_append, List.length_singleton]; omega
            · exact skipB (l := [10]) (fun x hx => by rw [List.mem_singleton.1 hx]; rfl) (B ++ [9])
            · rw [skipB g2]; rfl
          · intro hle W gg off cap hW hB
            exact (jdecX_behind (jencT T ++ [93]) (by rw [List.length_append, List.length_singleton]; omega) gg off cap _ (str_size _).symm W hB (tb_on hT.2 hW) (er T) [93] false false (jx_enc T hwr hj hEv [93] (Stp.of (by decide))) (by decide)).mono (fun e w' h => dsome_of rfl h)
          · intro W gg off cap hW hB
            have hdl : (jencT T).dropLast.length ≤ 65536 := by rw [List.length_dropLast]; omega
            have hnum : (T.o.kind = 3 ∨ T.o.kind = 4) → ((jencT T).dropLast = [] ∨ ∃ c t, (jencT T).dropLast = c :: t ∧ numc c = true) := by
              obtain ⟨o, kids⟩ := T
              rintro (h | h)
              · rw [jencT_mk, jO_3 (show o.kind = 3 from h)]
                obtain ⟨c, t, he, hc⟩ := jint_head o.g o.x
                exact cut_num he hc
              · rw [jencT_mk, jO_4 (show o.kind = 4 from h)]
                obtain ⟨c, t, he, hc⟩ := ptx_head (json_cls hj h)
                exact cut_num he hc
            by_cases h3 : T.o.kind = 3
            · refine (jdec_num _ hdl gg off cap _ (str_size _).symm W hB (tb_on hT.2 hW) (hnum (Or.inl h3))).mono ?_
              rintro e w' ⟨_, _, _, _, _, _, _, _, _, _, _, _, _, _, E, he, _, hb⟩
              exact ⟨_, _, _, _, _, _, _, _, _, _, _, _, _, _, E, he, Or.inl h3, hb⟩
            by_cases h4 : T.o.kind = 4
            · refine (jdec_num _ hdl gg off cap _ (str_size _).symm W hB (tb_on hT.2 hW) (hnum (Or.inr h4))).mono ?_
              rintro e w' ⟨_, _, _, _, _, _, _, _, _, _, _, _, _, _, E, he, _, hb⟩
              exact ⟨_, _, _, _, _, _, _, _, _, _, _, _, _, _, E, he, Or.inr (Or.inl h4), hb⟩
            exact (jdec_vf _ hdl gg off cap _ (str_size _).symm W hB (fun b hb0 => vf_cut W b hb0 (tb_on hT.2 hW) T hwr hj hEv h3 h4 h1)).mono (fun e w' h => dsome_of (Or.inr (Or.inr rfl)) h)
        · refine jback_none _ _ _ _ _ _ _ _ _ _ _ _ _ _ z w hT 8 rfl k1 (fun W hb => (k2 W hb).mono ?_)
          rintro e w' ⟨hE, hb'⟩
          rcases hE with ⟨m0, _⟩ | ⟨_, mj, _⟩ | ⟨_, _, _, rfl⟩ | ⟨_, _, hl, _⟩
          · exact absurd h0 m0
          · rw [hj] at mj; cases mj
          · exact ⟨rfl, hb'⟩
          · exact absurd hl h1
    · refine jback_none _ _ _ _ _ _ _ _ _ _ _ _ _ _ z w hT (mayN T) (by simpa using h0) k1 (fun W hb => (k2 W hb).mono ?_)
      rintro e w' ⟨hE, hb'⟩
      rcases hE with ⟨_, rfl⟩ | ⟨m0, _⟩ | ⟨m0, _⟩ | ⟨m0, _⟩
      · exact ⟨rfl, hb'⟩
      · exact absurd m0 h0
      · exact absurd m0 h0
      · exact absurd m0 h0
end Go.Proofs.YtebfggiodhaahaaGreatDoor
