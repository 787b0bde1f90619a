/-
  entrepotlaw1.NatTexts answers true for every number of four words and every text. The table internal/strconv.uint64pow10 reads as its initialiser lays it.
-/
import Derived.Test.YtngmdncidieclaaDoorTextsA
import Derived.Test.YtngmdncidieclaaDoorNatTold
namespace Go.Proofs.YtngmdncidieclaaDoor
open Go.RowKit Go.Shelf
attribute [local go_sem ↓] eql_nat neq_nat

set_option maxRecDepth 100000 in
theorem texts_long (x0 x1 x2 x3 : Int) (s : ByteArray) (hs : 120 < (s.size : Int)) (w : World) (hT : Tab w) :
    Calls Tryd.prog 4 #[.agg #[.int .u64 x0, .int .u64 x1, .int .u64 x2, .int .u64 x3], .string s] w fun e w' => e = .returned (.bool true) ∧ Below w.heap.size w w' := by
  have HT := Lib.hid hT; clear hT
  go_enter Tryd.func4, Tryd.ntmps4
  go_wp2_with fail
  refine (told_true _ (tab_on HT.out (by repeat (first | (with_reducible exact Below.refl _ _) | (with_reducible refine bal ?_ _) | (with_reducible refine Below.drew ?_) | (with_reducible refine bdn ?_ _))))).mono ?_
  rintro e w1 ⟨rfl, hb⟩
  have BW1 : Below w.heap.size w w1 := btr (by repeat (first | (with_reducible exact Below.refl _ _) | (with_reducible refine bal ?_ _) | (with_reducible refine Below.drew ?_) | (with_reducible refine bdn ?_ _))) hb
  clear hb
  go_wp2
  go_ret
  exact ⟨rfl, BW1⟩
set_option maxHeartbeats 2000000 in
set_option maxRecDepth 100000 in
theorem texts_core (x v : Nat) (b : Bool) (s p : ByteArray) (hx : x < 2 ^ 256) (hs : ¬ 120 < (s.size : Int)) (hp : p.size ≤ 78) (w : World) (hT : Tab w)
    (q1 : eq4 (lb 0 v) (lb 1 v) (lb 2 v) (lb 3 v) (lb 0 v) (lb 1 v) (lb 2 v) (lb 3 v) = true) (q2 : eq4 (lb 0 x) (lb 1 x) (lb 2 x) (lb 3 x) (lb 0 x) (lb 1 x) (lb 2 x) (lb 3 x) = true)
    (k1 : ∀ W, Calls Tryd.prog 24 #[.string s] W fun e w' => e = .returned (.tuple #[N4 v, .bool b]) ∧ Below W.heap.size W w')
    (k2 : ∀ W, Calls Tryd.prog 25 #[.string s] W fun e w' => e = .returned (.tuple #[N4 v, .bool b]) ∧ Below W.heap.size W w')
    (k3 : ∀ W, Tab W → Calls Tryd.prog 26 #[N4 x] W fun e w' => e = .returned (.string p) ∧ Below W.heap.size W w')
    (k4 : ∀ W, Calls Tryd.prog 24 #[.string p] W fun e w' => e = .returned (.tuple #[N4 x, .bool true]) ∧ Below W.heap.size W w')
    (k5 : ∀ W, Calls Tryd.prog 24 #[.string (⟨#[48]⟩ ++ p)] W fun e w' => e = .returned (.tuple #[.agg #[.int .u64 0, .int .u64 0, .int .u64 0, .int .u64 0], .bool false]) ∧ Below W.heap.size W w')
    (k6 : ∀ s' W, DR W s' x → Calls Tryd.prog 27 #[s'] W fun e w' => e = .returned (.string p) ∧ Below W.heap.size W w') :
    Calls Tryd.prog 4 #[N4 x, .string s] w fun e w' => e = .returned (.bool true) ∧ Below w.heap.size w w' := by
  have HT := Lib.hid hT; have HX := Lib.hid hx; have K1 := Lib.hid k1; have K2 := Lib.hid k2; have K3 := Lib.hid k3; have K4 := Lib.hid k4; have K5 := Lib.hid k5; have K6 := Lib.hid k6; have Q1 := Lib.hid q1; have Q2 := Lib.hid q2; clear hT hx k1 k2 k3 k4 k5 k6 q1 q2
  have HZ := Lib.hid (show eq4 0 0 0 0 0 0 0 0 = true by decide)
  have hbb : (b == b) = true := beq_self_eq_true b
  go_enter Tryd.func4, Tryd.ntmps4
  go_wp2_with fail
  refine (K1.out _).mono ?_
  rintro e w1 ⟨rfl, hb⟩
  have BW1 : Below w.heap.size w w1 := btr (by repeat (first | (with_reducible exact Below.refl _ _) | (with_reducible refine bal ?_ _) | (with_reducible refine Below.drew ?_) | (with_reducible refine bdn ?_ _))) hb
  have A1 : Row4 w1 w.heap.size (.int .u64 (lb 0 x)) (.int .u64 (lb 1 x)) (.int .u64 (lb 2 x)) (.int .u64 (lb 3 x)) := Row4.keep hb (by repeat (first | (with_reducible exact Row4.new _ _ _ _ _) | ((with_reducible refine Row4.new' _ ?_ _ _ _ _); (simp; done)) | (with_reducible refine Row4.alloc ?_ _) | (with_reducible refine Row4.drew ?_)))
  clear hb
  go_wp2_with fail
  refine (K2.out _).mono ?_
  rintro e w2 ⟨rfl, hb⟩
  have BW2 : Below w.heap.size w w2 := btr (by repeat (first | (with_reducible exact BW1) | (with_reducible refine bal ?_ _) | (with_reducible refine Below.drew ?_) | (with_reducible refine bdn ?_ _))) hb
  have A2 : Row4 w2 w.heap.size (.int .u64 (lb 0 x)) (.int .u64 (lb 1 x)) (.int .u64 (lb 2 x)) (.int .u64 (lb 3 x)) := Row4.keep hb (by repeat (first | (with_reducible exact A1) | (with_reducible refine Row4.alloc ?_ _) | (with_reducible refine Row4.drew ?_)))
  have apP_A := A1.lt
  have apP_0 := (BW1).size
  have P2 : Row4 w2 w1.heap.size (.int .u64 (lb 0 v)) (.int .u64 (lb 1 v)) (.int .u64 (lb 2 v)) (.int .u64 (lb 3 v)) := Row4.keep hb (by repeat (first | (with_reducible exact Row4.new _ _ _ _ _) | ((with_reducible refine Row4.new' _ ?_ _ _ _ _); (simp; done)) | (with_reducible refine Row4.alloc ?_ _) | (with_reducible refine Row4.drew ?_)))
  clear A1
  clear BW1
  clear hb
  go_upto_region 5 with (fail)
  go_name_world w3 hw3
  have BW3 : Below w.heap.size w w3 := by rw [← hw3]; repeat (first | (with_reducible exact BW2) | (with_reducible refine bal ?_ _) | (with_reducible refine Below.drew ?_) | (with_reducible refine bdn ?_ _))
  have A3 : Row4 w3 w.heap.size (.int .u64 (lb 0 x)) (.int .u64 (lb 1 x)) (.int .u64 (lb 2 x)) (.int .u64 (lb 3 x)) := by rw [← hw3]; exact (by repeat (first | (with_reducible exact A2) | (with_reducible refine Row4.alloc ?_ _) | (with_reducible refine Row4.drew ?_)))
  have P3 : Row4 w3 w1.heap.size (.int .u64 (lb 0 v)) (.int .u64 (lb 1 v)) (.int .u64 (lb 2 v)) (.int .u64 (lb 3 v)) := by rw [← hw3]; exact (by repeat (first | (with_reducible exact P2) | (with_reducible refine Row4.alloc ?_ _) | (with_reducible refine Row4.drew ?_)))
  have apM_A := A2.lt
  have apM_P := P2.lt
  have apM_0 := (BW2).size
  have M3 : Row4 w3 w2.heap.size (.int .u64 (lb 0 v)) (.int .u64 (lb 1 v)) (.int .u64 (lb 2 v)) (.int .u64 (lb 3 v)) := by rw [← hw3]; exact (by repeat (first | (with_reducible exact Row4.new _ _ _ _ _) | ((with_reducible refine Row4.new' _ ?_ _ _ _ _); (simp; done)) | (with_reducible refine Row4.alloc ?_ _) | (with_reducible refine Row4.drew ?_)))
  clear A2 P2
  clear BW2
  clear hw3
  obtain ⟨Ac0, Ac1, Ac2, Ac3⟩ := A3.four
  obtain ⟨Af0, Af1, Af2, Af3⟩ := A3.free4
  go_wp2_with fail
  refine (K3.out _ (tab_on HT.out (by repeat (first | (with_reducible exact BW3) | (with_reducible refine bal ?_ _) | (with_reducible refine Below.drew ?_) | (with_reducible refine bdn ?_ _))))).mono ?_
  rintro e w4 ⟨rfl, hb⟩
  have BW4 : Below w.heap.size w w4 := btr (by repeat (first | (with_reducible exact BW3) | (with_reducible refine bal ?_ _) | (with_reducible refine Below.drew ?_) | (with_reducible refine bdn ?_ _))) hb
  have A4 : Row4 w4 w.heap.size (.int .u64 (lb 0 x)) (.int .u64 (lb 1 x)) (.int .u64 (lb 2 x)) (.int .u64 (lb 3 x)) := Row4.keep hb (by repeat (first | (with_reducible exact A3) | (with_reducible refine Row4.alloc ?_ _) | (with_reducible refine Row4.drew ?_)))
  have P4 : Row4 w4 w1.heap.size (.int .u64 (lb 0 v)) (.int .u64 (lb 1 v)) (.int .u64 (lb 2 v)) (.int .u64 (lb 3 v)) := Row4.keep hb (by repeat (first | (with_reducible exact P3) | (with_reducible refine Row4.alloc ?_ _) | (with_reducible refine Row4.drew ?_)))
  have M4 : Row4 w4 w2.heap.size (.int .u64 (lb 0 v)) (.int .u64 (lb 1 v)) (.int .u64 (lb 2 v)) (.int .u64 (lb 3 v)) := Row4.keep hb (by repeat (first | (with_reducible exact M3) | (with_reducible refine Row4.alloc ?_ _) | (with_reducible refine Row4.drew ?_)))
  clear A3 P3 M3
  clear BW3
  clear hb
  go_wp2_with fail
  refine (K4.out _).mono ?_
  rintro e w5 ⟨rfl, hb⟩
  have BW5 : Below w.heap.size w w5 := btr (by repeat (first | (with_reducible exact BW4) | (with_reducible refine bal ?_ _) | (with_reducible refine Below.drew ?_) | (with_reducible refine bdn ?_ _))) hb
  have A5 : Row4 w5 w.heap.size (.int .u64 (lb 0 x)) (.int .u64 (lb 1 x)) (.int .u64 (lb 2 x)) (.int .u64 (lb 3 x)) := Row4.keep hb (by repeat (first | (with_reducible exact A4) | (with_reducible refine Row4.alloc ?_ _) | (with_reducible refine Row4.drew ?_)))
  have P5 : Row4 w5 w1.heap.size (.int .u64 (lb 0 v)) (.int .u64 (lb 1 v)) (.int .u64 (lb 2 v)) (.int .u64 (lb 3 v)) := Row4.keep hb (by repeat (first | (with_reducible exact P4) | (with_reducible refine Row4.alloc ?_ _) | (with_reducible refine Row4.drew ?_)))
  have M5 : Row4 w5 w2.heap.size (.int .u64 (lb 0 v)) (.int .u64 (lb 1 v)) (.int .u64 (lb 2 v)) (.int .u64 (lb 3 v)) := Row4.keep hb (by repeat (first | (with_reducible exact M4) | (with_reducible refine Row4.alloc ?_ _) | (with_reducible refine Row4.drew ?_)))
  clear A4 P4 M4
  clear BW4
  clear hb
  go_wp2_with fail
  refine (K5.out _).mono ?_
  rintro e w6 ⟨rfl, hb⟩
  have BW6 : Below w.heap.size w w6 := btr (by repeat (first | (with_reducible exact BW5) | (with_reducible refine bal ?_ _) | (with_reducible refine Below.drew ?_) | (with_reducible refine bdn ?_ _))) hb
  have A6 : Row4 w6 w.heap.size (.int .u64 (lb 0 x)) (.int .u64 (lb 1 x)) (.int .u64 (lb 2 x)) (.int .u64 (lb 3 x)) := Row4.keep hb (by repeat (first | (with_reducible exact A5) | (with_reducible refine Row4.alloc ?_ _) | (with_reducible refine Row4.drew ?_)))
  have P6 : Row4 w6 w1.heap.size (.int .u64 (lb 0 v)) (.int .u64 (lb 1 v)) (.int .u64 (lb 2 v)) (.int .u64 (lb 3 v)) := Row4.keep hb (by repeat (first | (with_reducible exact P5) | (with_reducible refine Row4.alloc ?_ _) | (with_reducible refine Row4.drew ?_)))
  have M6 : Row4 w6 w2.heap.size (.int .u64 (lb 0 v)) (.int .u64 (lb 1 v)) (.int .u64 (lb 2 v)) (.int .u64 (lb 3 v)) := Row4.keep hb (by repeat (first | (with_reducible exact M5) | (with_reducible refine Row4.alloc ?_ _) | (with_reducible refine Row4.drew ?_)))
  have apB_A := A5.lt
  have apB_P := P5.lt
  have apB_M := M5.lt
  have apB_0 := (BW5).size
  have B6 : Row4 w6 w5.heap.size (.int .u64 (lb 0 x)) (.int .u64 (lb 1 x)) (.int .u64 (lb 2 x)) (.int .u64 (lb 3 x)) := Row4.keep hb (by repeat (first | (with_reducible exact Row4.new _ _ _ _ _) | ((with_reducible refine Row4.new' _ ?_ _ _ _ _); (simp; done)) | (with_reducible refine Row4.alloc ?_ _) | (with_reducible refine Row4.drew ?_)))
  clear A5 P5 M5
  clear BW5
  clear hb
  go_wp2_with fail
  refine (told_true _ (tab_on HT.out (by repeat (first | (with_reducible exact BW6) | (with_reducible refine bal ?_ _) | (with_reducible refine Below.drew ?_) | (with_reducible refine bdn ?_ _))))).mono ?_
  rintro e w7 ⟨rfl, hb⟩
  have BW7 : Below w.heap.size w w7 := btr (by repeat (first | (with_reducible exact BW6) | (with_reducible refine bal ?_ _) | (with_reducible refine Below.drew ?_) | (with_reducible refine bdn ?_ _))) hb
  have A7 : Row4 w7 w.heap.size (.int .u64 (lb 0 x)) (.int .u64 (lb 1 x)) (.int .u64 (lb 2 x)) (.int .u64 (lb 3 x)) := Row4.keep hb (by repeat (first | (with_reducible exact A6) | (with_reducible refine Row4.alloc ?_ _) | (with_reducible refine Row4.drew ?_)))
  have P7 : Row4 w7 w1.heap.size (.int .u64 (lb 0 v)) (.int .u64 (lb 1 v)) (.int .u64 (lb 2 v)) (.int .u64 (lb 3 v)) := Row4.keep hb (by repeat (first | (with_reducible exact P6) | (with_reducible refine Row4.alloc ?_ _) | (with_reducible refine Row4.drew ?_)))
  have M7 : Row4 w7 w2.heap.size (.int .u64 (lb 0 v)) (.int .u64 (lb 1 v)) (.int .u64 (lb 2 v)) (.int .u64 (lb 3 v)) := Row4.keep hb (by repeat (first | (with_reducible exact M6) | (with_reducible refine Row4.alloc ?_ _) | (with_reducible refine Row4.drew ?_)))
  have B7 : Row4 w7 w5.heap.size (.int .u64 (lb 0 x)) (.int .u64 (lb 1 x)) (.int .u64 (lb 2 x)) (.int .u64 (lb 3 x)) := Row4.keep hb (by repeat (first | (with_reducible exact B6) | (with_reducible refine Row4.alloc ?_ _) | (with_reducible refine Row4.drew ?_)))
  have apC_A := A6.lt
  have apC_P := P6.lt
  have apC_M := M6.lt
  have apC_B := B6.lt
  have apC_0 := (BW6).size
  have C7 : Row4 w7 w6.heap.size (.int .u64 0) (.int .u64 0) (.int .u64 0) (.int .u64 0) := Row4.keep hb (by repeat (first | (with_reducible exact Row4.new _ _ _ _ _) | ((with_reducible refine Row4.new' _ ?_ _ _ _ _); (simp; done)) | (with_reducible refine Row4.alloc ?_ _) | (with_reducible refine Row4.drew ?_)))
  clear A6 P6 M6 B6
  clear BW6
  clear hb
  obtain ⟨Ac0, Ac1, Ac2, Ac3⟩ := A7.four
  obtain ⟨Af0, Af1, Af2, Af3⟩ := A7.free4
  obtain ⟨Pc0, Pc1, Pc2, Pc3⟩ := P7.four
  obtain ⟨Pf0, Pf1, Pf2, Pf3⟩ := P7.free4
  obtain ⟨Mc0, Mc1, Mc2, Mc3⟩ := M7.four
  obtain ⟨Mf0, Mf1, Mf2, Mf3⟩ := M7.free4
  have q1 := Q1.out
  go_wp2_with fail
  refine (rof x HX.out _).mono ?_
  rintro e w8 ⟨s1, rfl, hr, hb⟩
  have hbX : Below w7.heap.size w7 w8 := btr (by repeat (first | (with_reducible exact Below.refl _ _) | (with_reducible refine bal ?_ _) | (with_reducible refine Below.drew ?_) | (with_reducible refine bdn ?_ _))) hb
  clear hbX
  have DX8 : DR w8 s1 x := hr
  clear hr
  have BW8 : Below w.heap.size w w8 := btr (by repeat (first | (with_reducible exact BW7) | (with_reducible refine bal ?_ _) | (with_reducible refine Below.drew ?_) | (with_reducible refine bdn ?_ _))) hb
  have A8 : Row4 w8 w.heap.size (.int .u64 (lb 0 x)) (.int .u64 (lb 1 x)) (.int .u64 (lb 2 x)) (.int .u64 (lb 3 x)) := Row4.keep hb (by repeat (first | (with_reducible exact A7) | (with_reducible refine Row4.alloc ?_ _) | (with_reducible refine Row4.drew ?_)))
  have P8 : Row4 w8 w1.heap.size (.int .u64 (lb 0 v)) (.int .u64 (lb 1 v)) (.int .u64 (lb 2 v)) (.int .u64 (lb 3 v)) := Row4.keep hb (by repeat (first | (with_reducible exact P7) | (with_reducible refine Row4.alloc ?_ _) | (with_reducible refine Row4.drew ?_)))
  have M8 : Row4 w8 w2.heap.size (.int .u64 (lb 0 v)) (.int .u64 (lb 1 v)) (.int .u64 (lb 2 v)) (.int .u64 (lb 3 v)) := Row4.keep hb (by repeat (first | (with_reducible exact M7) | (with_reducible refine Row4.alloc ?_ _) | (with_reducible refine Row4.drew ?_)))
  have B8 : Row4 w8 w5.heap.size (.int .u64 (lb 0 x)) (.int .u64 (lb 1 x)) (.int .u64 (lb 2 x)) (.int .u64 (lb 3 x)) := Row4.keep hb (by repeat (first | (with_reducible exact B7) | (with_reducible refine Row4.alloc ?_ _) | (with_reducible refine Row4.drew ?_)))
  have C8 : Row4 w8 w6.heap.size (.int .u64 0) (.int .u64 0) (.int .u64 0) (.int .u64 0) := Row4.keep hb (by repeat (first | (with_reducible exact C7) | (with_reducible refine Row4.alloc ?_ _) | (with_reducible refine Row4.drew ?_)))
  clear A7 P7 M7 B7 C7
  clear BW7
  clear hb
  clear q1
  go_wp2_with fail
  refine (K6.out _ _ (DR.keep (by repeat (first | (with_reducible exact Below.refl _ _) | (with_reducible refine bal ?_ _) | (with_reducible refine Below.drew ?_) | (with_reducible refine bdn ?_ _))) DX8)).mono ?_
  rintro e w9 ⟨rfl, hb⟩
  have hbX : Below w8.heap.size w8 w9 := btr (by repeat (first | (with_reducible exact Below.refl _ _) | (with_reducible refine bal ?_ _) | (with_reducible refine Below.drew ?_) | (with_reducible refine bdn ?_ _))) hb
  have DX9 : DR w9 s1 x := DR.keep hbX DX8
  clear DX8
  clear hbX
  have BW9 : Below w.heap.size w w9 := btr (by repeat (first | (with_reducible exact BW8) | (with_reducible refine bal ?_ _) | (with_reducible refine Below.drew ?_) | (with_reducible refine bdn ?_ _))) hb
  have A9 : Row4 w9 w.heap.size (.int .u64 (lb 0 x)) (.int .u64 (lb 1 x)) (.int .u64 (lb 2 x)) (.int .u64 (lb 3 x)) := Row4.keep hb (by repeat (first | (with_reducible exact A8) | (with_reducible refine Row4.alloc ?_ _) | (with_reducible refine Row4.drew ?_)))
  have P9 : Row4 w9 w1.heap.size (.int .u64 (lb 0 v)) (.int .u64 (lb 1 v)) (.int .u64 (lb 2 v)) (.int .u64 (lb 3 v)) := Row4.keep hb (by repeat (first | (with_reducible exact P8) | (with_reducible refine Row4.alloc ?_ _) | (with_reducible refine Row4.drew ?_)))
  have M9 : Row4 w9 w2.heap.size (.int .u64 (lb 0 v)) (.int .u64 (lb 1 v)) (.int .u64 (lb 2 v)) (.int .u64 (lb 3 v)) := Row4.keep hb (by repeat (first | (with_reducible exact M8) | (with_reducible refine Row4.alloc ?_ _) | (with_reducible refine Row4.drew ?_)))
  have B9 : Row4 w9 w5.heap.size (.int .u64 (lb 0 x)) (.int .u64 (lb 1 x)) (.int .u64 (lb 2 x)) (.int .u64 (lb 3 x)) := Row4.keep hb (by repeat (first | (with_reducible exact B8) | (with_reducible refine Row4.alloc ?_ _) | (with_reducible refine Row4.drew ?_)))
  have C9 : Row4 w9 w6.heap.size (.int .u64 0) (.int .u64 0) (.int .u64 0) (.int .u64 0) := Row4.keep hb (by repeat (first | (with_reducible exact C8) | (with_reducible refine Row4.alloc ?_ _) | (with_reducible refine Row4.drew ?_)))
  clear A8 P8 M8 B8 C8
  clear BW8
  clear hb
  obtain ⟨Ac0, Ac1, Ac2, Ac3⟩ := A9.four
  obtain ⟨Af0, Af1, Af2, Af3⟩ := A9.free4
  obtain ⟨Bc0, Bc1, Bc2, Bc3⟩ := B9.four
  obtain ⟨Bf0, Bf1, Bf2, Bf3⟩ := B9.free4
  obtain ⟨Cc0, Cc1, Cc2, Cc3⟩ := C9.four
  obtain ⟨Cf0, Cf1, Cf2, Cf3⟩ := C9.free4
  have q2 := Q2.out; have q3 := HZ.out
  go_wp2
  go_ret
  exact ⟨rfl, BW9⟩
theorem texts_any (x : Nat) (s : ByteArray) (hx : x < 2 ^ 256) (w : World) (hT : Tab w) :
    Calls Tryd.prog 4 #[N4 x, .string s] w fun e w' => e = .returned (.bool true) ∧ Below w.heap.size w w' := by
  by_cases hs : 120 < s.size
  · exact texts_long _ _ _ _ s (by omega) w hT
  · have hps := dstr_le hx
    have lx : (digs x).length ≤ 1000 := Nat.le_trans (digs_len.2 (show x < 2 ^ (32 * 8) from hx)) (by decide)
    refine texts_core x ((parseN s).getD 0) (parseN s).isSome s (dstr x) hx (by omega) hps w hT ?_ ?_ (fun W => pend_eq (parse_any W s (by omega))) (fun W => pend_eq (rparse s (by omega) W)) (fun W hW => print_str x hx W hW) (fun W => ?_) (fun W => ?_) (fun s' W hD => rprint hD lx)
    · rw [eq4_nat _ _ (parseN_below s) (parseN_below s)]; exact decide_eq_true rfl
    · rw [eq4_nat _ _ hx hx]; exact decide_eq_true rfl
    · have := pend_eq (parse_any W (dstr x) (by omega))
      rw [parseN_dec (dstr_list x) hx] at this
      exact this
    · have e : (⟨#[48]⟩ ++ dstr x : ByteArray).data.toList = 48 :: Lib.decDigits x := by rw [← dstr_list x]; simp
      have hsz : (⟨#[48]⟩ ++ dstr x : ByteArray).size ≤ 79 := by rw [ByteArray.size_append]; have : (⟨#[48]⟩ : ByteArray).size = 1 := rfl; omega
      have hk := parse_any W (⟨#[48]⟩ ++ dstr x) (by omega)
      refine hk.mono ?_
      rintro e' w' ⟨h, hb⟩
      refine ⟨?_, hb⟩
      unfold ParseEnd at h
      rw [parseN_nought e (by have := dec_pos x; intro h0; rw [h0] at this; simp at this)] at h
      exact h
end Go.Proofs.YtngmdncidieclaaDoor
